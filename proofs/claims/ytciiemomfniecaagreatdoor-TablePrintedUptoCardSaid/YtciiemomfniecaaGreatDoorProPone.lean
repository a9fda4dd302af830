/-
  Reserved numbers are read: the contract.
-/
import Derived.Test.YtciiemomfniecaaGreatDoorProOnes
import Derived.Test.YtciiemomfniecaaGreatDoorVars
import Derived.Lib.AppendStr
import Derived.Test.YtciiemomfniecaaGreatDoorTokRnum
import Derived.Deep.RegionHeld3
namespace Go.Proofs.YtciiemomfniecaaGreatDoor
set_option maxRecDepth 100000

open Go.RowKit

theorem resM_add (m : Ms) (n : Int) : ({ m with res := m.res ++ [n] } : Ms).wt = m.wt + 1 := by simp [Ms.wt]; omega
set_option maxHeartbeats 2000000 in
theorem reserved_any (P E M : Nat) (s : S) (m : Ms) (w : World) (hp : PSt w P E s) (hm : MBox w M m) (hPM : P < M) (hst : s.st = false) (hn : m.wt + s.mu ≤ 100000) :
    Calls Tryz.prog 172 #[.pointer (some ⟨P, 0, none⟩), .pointer (some ⟨M, 0, none⟩)] w fun e w' => e = .returned (.tuple #[]) ∧ PSt w' P E (reservedF s m).1 ∧ MBox w' M (reservedF s m).2 ∧ Kp M P w w' := by
  obtain ⟨j0, hj, hy0, hy1, hy2⟩ := info_parts infoI64s
  obtain ⟨vF, vO, vR, hr⟩ := hm.open_
  have hM := hr.lt
  have hPl : P < w.heap.size := by omega
  have HR := Lib.hid hr
  have hmu1 := resS_mu s hst
  have hwt1 := resM_wt s m
  have hwl := (wt_le m).2.2
  have H1 := Lib.hid (word_any7 P E s ⟨#[114, 101, 115, 101, 114, 118, 101, 100]⟩ w hp)
  have H2 := Lib.hid (fun w h => num_any7 P E (s.word wReserved) w h)
  have HS : Hid (reservedF s m = ((resF (resS s) (resM s m)).1.sign [59], (resF (resS s) (resM s m)).2)) := Lib.hid rfl
  have HM : Hid (resM s m = { m with res := m.res ++ [(s.word wReserved).numV] }) := Lib.hid rfl
  have HMU := Lib.hid hmu1
  have HWT := Lib.hid hwt1
  obtain ⟨x, hx⟩ : ∃ x, x = (s.word wReserved).numV := ⟨_, rfl⟩
  rw [← hx] at H2 HM
  clear hr hm hp hmu1 hwt1 hst hx
  go_enter Tryz.func172, Tryz.ntmps172
  go_wp2_with fail
  refine H1.out.mono ?_
  rintro e w1 ⟨rfl, hp1, hg1⟩
  have hs1 := hg1.size
  have hr1 := HR.out.taken hg1 hPM
  have hk1 := (Kp.refl M P w).taken hg1 (by omega)
  have c1 := heap_cell hr1.box 3
  simp at c1
  have HR1 := Lib.hid hr1.drew
  have HK1 := Lib.hid (hk1.drew 1)
  have hM1 := hr1.lt
  clear hr1 hk1
  go_wp2_with fail
  go_region_law
    (first
      | (refine step_append_lies _ rfl _ _ 49 rfl (M + 1) 2 j0 _ 1 8 Tryz.underlying49 hj hy0 hy1 hy2 rfl (by decide) vR m.res.length (intv m.res) (by simp [Act.eval, Act.put]) (HR2.out.alloc _).r ⟨w2.heap.size, 0, none⟩ 1 1 [.int .i64 x] (by simp [Act.eval, Act.put]) rfl (World.news_of_block (heap_alloc_new _ _)) (by intro u hu; rw [List.mem_singleton.1 hu]; rfl) (by decide) (by unfold maxLen; omega) (by omega) (by simp; omega) w2.heap.size.succ (by simp) ?_; intro g3 cap3 w3 hown3 hg3 hat3 hlt3; have hb3 := (hg3.block M (HR2.out.alloc _).lt (fun e => by have := own_M HR2.out.r M e.symm; omega)).trans (HR2.out.alloc _).box; have c3 := heap_cell hb3 3; have f3 := heap_free hb3 3; simp at c3; have HB3 := Lib.hid hb3; clear hb3)
      | (go_simp; refine (H2.out _ hp1.drew).mono ?_; rintro e w2 ⟨rfl, hp2, hg2⟩; have hs2 : w1.heap.size ≤ w2.heap.size := hg2.size; have hr2 := HR1.out.taken hg2 hPM; have hk2 := HK1.out.taken hg2 (by show M ≤ w1.heap.size; omega); have c2 := heap_cell hr2.box 3; simp at c2; have HR2 := Lib.hid hr2; have HK2 := Lib.hid hk2; have hM2 := hr2.lt; clear hr2 hk2))
  all_goals
    have hsz3 := hg3.size
    simp at hsz3
    have hp3 := (hp2.alloc (.cells #[.int .i64 x] 2)).past (v := .slice (some ⟨g3, 0, none⟩) (m.res.length + 1) cap3) hPM (HR2.out.alloc _).r hg3 3
    have hm3 := (HR2.out.alloc (.cells #[.int .i64 x] 2)).addR hg3 hown3
    have HK3 := Lib.hid ((HK2.out.alloc (Nat.le_of_lt hM2) (.cells #[.int .i64 x] 2)).past (v := .slice (some ⟨g3, 0, none⟩) (m.res.length + 1) cap3) (by simp; omega) (HR2.out.alloc _).r hg3 3)
    rw [← HM.out] at hm3
    have HM3 := Lib.hid hm3
    have HP3 : Hid (PSt (w3.setCell ⟨M, 3, none⟩ (.slice (some ⟨g3, 0, none⟩) (m.res.length + 1) cap3)) P E (resS s)) := Lib.hid hp3
    clear hm3 hp3
    generalize hX : resF (resS s) (resM s m) = X at *
    have HX := Lib.hid hX
    clear hX
    go_wp2
    go_loopw [18] (fun _ wr => ResRel P E M w X 100000 wr) (fun _ wr => muW wr P)
    case atStart => exact ⟨resS s, resM s m, HP3.out, HM3.out, HK3.out, HX.out, by have := HMU.out; have := HWT.out; omega⟩
    case round =>
      obtain ⟨s5, m5, hp5, hm5, hk5, hx5, hw5⟩ := hrel
      have HX5 := Lib.hid hx5
      have HM5 := Lib.hid hm5
      have HK5 := Lib.hid hk5
      have HP5 := Lib.hid hp5
      have hmu5 := hp5.mu
      have hI := sees_any P E 3 ⟨#[44]⟩ s5 _ hp5
      clear hx5 hm5 hk5 hp5
      cases hin : s5.sees 3 [44]
      · have HI : Hid (Calls Tryz.prog 115 #[.pointer (some ⟨P, 0, none⟩), .int .i64 ((3 : Nat) : Int), .string ⟨#[44]⟩] wr fun e w' => e = .returned (.bool false) ∧ wr = w') := Lib.hid (hI.mono fun e w' h => ⟨by rw [h.1]; exact congrArg (fun b => Ending.returned (Value.bool b)) hin, h.2⟩)
        have HE : Hid (X = (s5, m5)) := Lib.hid (by rw [← HX5.out, resF, dif_neg (by rw [hin]; decide)])
        clear hI hin
        have HMU5 := Lib.hid hmu5
        clear hmu5
        go_wp2_with fail
        refine HI.out.mono ?_
        rintro e w6 ⟨rfl, rfl⟩
        go_wp2_with fail
        refine (sign_any7 P E s5 ⟨#[59]⟩ _ HP5.out).mono ?_
        rintro e w7 ⟨rfl, hp7, hg7⟩
        have hM7 := HM5.out.taken hg7 hPM
        have hk7 := HK5.out.taken hg7 (by have := HK5.out.size; omega)
        go_wp2
        refine bodyPost_end (results_none rfl _ _ _) rfl ?_
        rw [HS.out, HE.out]
        exact ⟨rfl, hp7, hM7, hk7⟩
      · have HI : Hid (Calls Tryz.prog 115 #[.pointer (some ⟨P, 0, none⟩), .int .i64 ((3 : Nat) : Int), .string ⟨#[44]⟩] wr fun e w' => e = .returned (.bool true) ∧ wr = w') := Lib.hid (hI.mono fun e w' h => ⟨by rw [h.1]; exact congrArg (fun b => Ending.returned (Value.bool b)) hin, h.2⟩)
        have HN : Hid (resF (s5.sign [44]).num { m5 with res := m5.res ++ [(s5.sign [44]).numV] } = X) := Lib.hid (by rw [← HX5.out, resF_in s5 m5 hin])
        have hmu6 := (S.sign_mu s5 [44]).2 (S.sees_l hin).1
        have hmu7 := (S.num_mu (s5.sign [44])).1
        have HIN := Lib.hid hin
        clear hI hin
        have HMU5 := Lib.hid hmu5
        clear hmu5
        go_wp2_with fail
        refine HI.out.mono ?_
        rintro e w6 ⟨rfl, rfl⟩
        go_wp2_with fail
        refine (sign_any7 P E s5 ⟨#[44]⟩ _ HP5.out).mono ?_
        rintro e w7 ⟨rfl, hp7, hg7⟩
        have H6 := Lib.hid (fun w h => num_any7 P E (s5.sign [44]) w h)
        obtain ⟨y, hy⟩ : ∃ y, y = (s5.sign [44]).numV := ⟨_, rfl⟩
        rw [← hy] at H6 HN
        have hwd := resM_add m5 y
        have HWD := Lib.hid hwd
        clear hy hwd
        have hs7 := hg7.size
        obtain ⟨wF, wO, wR, hr7⟩ := (HM5.out.taken hg7 hPM).open_
        have hk7 := HK5.out.taken hg7 (by have := HK5.out.size; omega)
        have c7 := heap_cell hr7.box 3
        simp at c7
        have HR7 := Lib.hid hr7.drew
        have HK7 := Lib.hid (hk7.drew 1)
        have hM7 := hr7.lt
        have hwl5 := (wt_le m5).2.2
        clear hr7 hk7
        go_wp2_with fail
        go_region_law
          (first
            | (refine step_append_lies _ rfl _ _ 49 rfl (M + 1) 2 j0 _ 1 8 Tryz.underlying49 hj hy0 hy1 hy2 rfl (by decide) wR m5.res.length (intv m5.res) (by simp [Act.eval, Act.put]) (HR8.out.alloc _).r ⟨w8.heap.size, 0, none⟩ 1 1 [.int .i64 y] (by simp [Act.eval, Act.put]) rfl (World.news_of_block (heap_alloc_new _ _)) (by intro u hu; rw [List.mem_singleton.1 hu]; rfl) (by decide) (by unfold maxLen; omega) (by omega) (by simp; omega) w8.heap.size.succ (by simp) ?_; intro g9 cap9 w9 hown9 hg9 hat9 hlt9; have hb9 := (hg9.block M (HR8.out.alloc _).lt (fun e => by have := own_M HR8.out.r M e.symm; omega)).trans (HR8.out.alloc _).box; have c9 := heap_cell hb9 3; have f9 := heap_free hb9 3; simp at c9; have HB9 := Lib.hid hb9; clear hb9)
            | (go_simp; refine (H6.out _ hp7.drew).mono ?_; rintro e w8 ⟨rfl, hp8, hg8⟩; have hs8 : w7.heap.size ≤ w8.heap.size := hg8.size; have hr8 := HR7.out.taken hg8 hPM; have hk8 := HK7.out.taken hg8 (by show M ≤ w7.heap.size; omega); have c8 := heap_cell hr8.box 3; simp at c8; have HR8 := Lib.hid hr8; have HK8 := Lib.hid hk8; have hM8 := hr8.lt; clear hr8 hk8))
        all_goals
          have hp9 := (hp8.alloc (.cells #[.int .i64 y] 2)).past (v := .slice (some ⟨g9, 0, none⟩) (m5.res.length + 1) cap9) hPM (HR8.out.alloc _).r hg9 3
          go_wp2
          refine ⟨⟨(s5.sign [44]).num, _, hp9, (HR8.out.alloc _).addR hg9 hown9, (HK8.out.alloc (Nat.le_of_lt hM8) _).past (by simp; omega) (HR8.out.alloc _).r hg9 3, HN.out, by have := HWD.out; omega⟩, ?_⟩
          rw [hp9.mu, HMU5.out]
          omega
end Go.Proofs.YtciiemomfniecaaGreatDoor
/-
  What reads an item, and a message: the contracts.
-/
namespace Go.Proofs.YtciiemomfniecaaGreatDoor
set_option maxRecDepth 100000

open Go.RowKit

/-- The function that reads the item that stands next. -/
def itemFn (s : S) : Nat := if s.sees 0 wRepeated then 170 else if s.sees 0 wOneof then 171 else if s.sees 0 wReserved then 172 else if s.map2 then 174 else 175
theorem item_read (P E M : Nat) (s : S) (m : Ms) (w : World) (hp : PSt w P E s) (hm : MBox w M m) (hPM : P < M) (hst : s.st = false) (hn : m.wt + s.mu ≤ 100000) :
    Calls Tryz.prog (itemFn s) #[.pointer (some ⟨P, 0, none⟩), .pointer (some ⟨M, 0, none⟩)] w fun e w' => e = .returned (.tuple #[]) ∧ PSt w' P E (itemF E s m).1 ∧ MBox w' M (itemF E s m).2 ∧ Kp M P w w' := by
  have hF : m.F.length ≤ 100000 := by have := wt_le m; omega
  unfold itemFn itemF
  by_cases h1 : s.sees 0 wRepeated = true
  · rw [if_pos h1, if_pos h1]; exact repeated_any P E M s m w hp hm hPM hF
  · rw [if_neg h1, if_neg h1]
    by_cases h2 : s.sees 0 wOneof = true
    · rw [if_pos h2, if_pos h2]; exact oneof_any P E M s m w hp hm hPM hst hn
    · rw [if_neg h2, if_neg h2]
      by_cases h3 : s.sees 0 wReserved = true
      · rw [if_pos h3, if_pos h3]; exact reserved_any P E M s m w hp hm hPM hst hn
      · rw [if_neg h3, if_neg h3]
        by_cases h4 : s.map2 = true
        · rw [if_pos h4, if_pos h4]; exact pairs_any P E M s m w hp hm hPM hF
        · rw [if_neg h4, if_neg h4]; exact single_any P E M s m w hp hm hPM hF
theorem item_enters (s : S) : ∀ args w, (callFunc (itemFn s) args).run Tryz.prog w = .ok (.enter (itemFn s) args) w := by
  unfold itemFn
  split
  · exact enters_of Tryz.func170 (by kernel_rfl) rfl
  · split
    · exact enters_of Tryz.func171 (by kernel_rfl) rfl
    · split
      · exact enters_of Tryz.func172 (by kernel_rfl) rfl
      · split
        · exact enters_of Tryz.func174 (by kernel_rfl) rfl
        · exact enters_of Tryz.func175 (by kernel_rfl) rfl
def itemV (P k : Nat) : Value := .func (.func k) #[.pointer (some ⟨P, 0, none⟩)] #[]
theorem ret_item {P k k' : Nat} (h : k = k') : Ending.returned (.func (.func k) #[.pointer (some ⟨P, 0, none⟩)] #[]) = .returned (itemV P k') := by rw [h]; rfl
set_option maxHeartbeats 1000000 in
theorem item_any (P E : Nat) (s : S) (w : World) (h : PSt w P E s) : Calls Tryz.prog 146 #[.pointer (some ⟨P, 0, none⟩)] w fun e w' => e = .returned (itemV P (itemFn s)) ∧ w = w' := by
  have H1 := Lib.hid (sees_any P E 0 ⟨#[114, 101, 112, 101, 97, 116, 101, 100]⟩ s w h)
  have H2 := Lib.hid (sees_any P E 0 ⟨#[111, 110, 101, 111, 102]⟩ s w h)
  have H3 := Lib.hid (sees_any P E 0 ⟨#[114, 101, 115, 101, 114, 118, 101, 100]⟩ s w h)
  have H4 := Lib.hid (map2_any P E s w h)
  have hF : itemFn s = if s.sees 0 wRepeated then 170 else if s.sees 0 wOneof then 171 else if s.sees 0 wReserved then 172 else if s.map2 then 174 else 175 := rfl
  change Hid (Calls _ _ _ _ fun e w' => e = .returned (.bool (s.sees 0 wRepeated)) ∧ w = w') at H1
  change Hid (Calls _ _ _ _ fun e w' => e = .returned (.bool (s.sees 0 wOneof)) ∧ w = w') at H2
  change Hid (Calls _ _ _ _ fun e w' => e = .returned (.bool (s.sees 0 wReserved)) ∧ w = w') at H3
  generalize s.sees 0 wRepeated = b1 at *
  generalize s.sees 0 wOneof = b2 at *
  generalize s.sees 0 wReserved = b3 at *
  generalize s.map2 = b4 at *
  have HF := Lib.hid hF
  clear hF
  go_enter Tryz.func146, Tryz.ntmps146
  go_wp2_with fail
  refine H1.out.mono ?_
  rintro e w' ⟨rfl, rfl⟩
  cases b1
  · go_wp2_with fail
    refine H2.out.mono ?_
    rintro e w' ⟨rfl, rfl⟩
    cases b2
    · go_wp2_with fail
      refine H3.out.mono ?_
      rintro e w' ⟨rfl, rfl⟩
      cases b3
      · go_wp2_with fail
        refine H4.out.mono ?_
        rintro e w' ⟨rfl, rfl⟩
        cases b4
        all_goals
          go_wp2
          go_ret
          exact ⟨ret_item (by rw [HF.out]; rfl), rfl⟩
      · go_wp2
        go_ret
        exact ⟨ret_item (by rw [HF.out]; rfl), rfl⟩
    · go_wp2
      go_ret
      exact ⟨ret_item (by rw [HF.out]; rfl), rfl⟩
  · go_wp2
    go_ret
    exact ⟨ret_item (by rw [HF.out]; rfl), rfl⟩
end Go.Proofs.YtciiemomfniecaaGreatDoor
/-
  A message is read: the contract.
-/
namespace Go.Proofs.YtciiemomfniecaaGreatDoor
set_option maxRecDepth 100000

open Go.RowKit

/-- A message's slices, as they are read. -/
structure MRead (w : World) (m : Ms) (vF vO vR : Value) : Prop where
  f : w.ownsRow 0 53 7 vF m.F.length (fdv m.F)
  o : w.ownsRow 0 9 1 vO m.ones.length (strv m.ones)
  r : w.ownsRow 0 2 1 vR m.res.length (intv m.res)
theorem MRow.read {w : World} {M : Nat} {m : Ms} {vF vO vR : Value} (h : MRow w M m vF vO vR) : MRead w m vF vO vR := ⟨own_mono h.f (Nat.zero_le _), own_mono h.o (Nat.zero_le _), own_mono h.r (Nat.zero_le _)⟩
theorem own_one {w : World} {b : Nat} {e : TypeId} {size : Nat} {v : Value} {n : Nat} {xs : List Value} (h : w.ownsRow b e size v n xs) : v.oneCell' = true := by
  rcases h.2 with ⟨rfl, _⟩ | ⟨g, cap, cur, rfl, _⟩ <;> rfl
def MsV (m : Ms) (vF vO vR : Value) : Value := .agg #[.string (txt m.name), vF, vO, vR, .int .i64 m.at_]
theorem infoMs : (Tryz.prog.info? 51).map (·.size) = some 5 := by kernel_rfl
theorem wpList_store_ms {ops : Array Oper} {rest : List Oper} {o : Oper} {a : Act} {w : World} {Q : Exit → Act → World → Prop} (hgd : o.guard = none) (x y : Operand) (ho : o.op = .store 51 x y)
    (hd : o.dst = none) (g : Nat) (b0 : ByteArray) (v1 v2 v3 : Value) (b4 : Int) (u0 u1 u2 u3 u4 : Value) (hx : a.eval x = .pointer (some ⟨g, 0, none⟩)) (hy : a.eval y = .agg #[.string b0, v1, v2, v3, .int .i64 b4])
    (h1 : v1.oneCell' = true) (h2 : v2.oneCell' = true) (h3 : v3.oneCell' = true)
    (t : TypeId) (hg : w.heap[g]? = some (.cells #[u0, u1, u2, u3, u4] t (0, 0)))
    (h : wpList Tryz.prog ops Q rest a (w.setRow g #[.string b0, v1, v2, v3, .int .i64 b4])) : wpList Tryz.prog ops Q (o :: rest) a w :=
  wpList_store_rowTo hgd 51 x y ho hd g _ hx hy t _ hg infoMs rfl (by simp [h1, h2, h3]; simp [Value.oneCell']) h
theorem wpList_load_ms {ops : Array Oper} {rest : List Oper} {o : Oper} {a : Act} {w : World} {Q : Exit → Act → World → Prop} (hgd : o.guard = none) (x : Operand) (ho : o.op = .load 51 x)
    (g : Nat) (u0 u1 u2 u3 u4 : Value) (hx : a.eval x = .pointer (some ⟨g, 0, none⟩)) (t : TypeId) (fr : Nat × Nat) (hg : w.heap[g]? = some (.cells #[u0, u1, u2, u3, u4] t fr))
    (h : wpList Tryz.prog ops Q rest (a.put o.dst (.agg #[u0, u1, u2, u3, u4])) w) : wpList Tryz.prog ops Q (o :: rest) a w :=
  wpList_load_row hgd 51 x ho g hx t _ fr _ hg Tryz.underlying51 rfl infoMs h
theorem results_ms {fn : Func} {p : Tmp} (h : fn.results = #[.cell p 51]) (tmps : Array Value) (w : World) (g : Nat) (t : TypeId) (u0 u1 u2 u3 u4 : Value) (fr : Nat × Nat)
    (hp : tmps.getD p undef = .pointer (some ⟨g, 0, none⟩)) (hg : w.heap[g]? = some (.cells #[u0, u1, u2, u3, u4] t fr)) :
    (results fn tmps).run Tryz.prog w = .ok (.agg #[u0, u1, u2, u3, u4]) w :=
  results_cell_row h tmps w g t _ fr _ hp hg Tryz.underlying51 rfl infoMs
theorem itemsF_in (E : Nat) (s : S) (m : Ms) (h : s.inside = true) : itemsF E s m = itemsF E (itemF E s m).1 (itemF E s m).2 := by rw [itemsF, dif_pos h]
/-- Where the loop over a message's items is. -/
def ItRel (P E M : Nat) (w : World) (X : S × Ms) (K : Nat) (wr : World) : Prop := ∃ s m, PSt wr P E s ∧ MBox wr M m ∧ Kp M P w wr ∧ itemsF E s m = X ∧ m.wt + s.mu ≤ K
/-- What is told of a message that is read. -/
def MsPost (P E : Nat) (w : World) (X : S × Ms) (e : Ending) (w' : World) : Prop := ∃ vF vO vR, e = .returned (MsV X.2 vF vO vR) ∧ MRead w' X.2 vF vO vR ∧ PSt w' P E X.1 ∧ w.grownBy w' (some P)
theorem MRead.kept {w w' : World} {m : Ms} {vF vO vR : Value} (h : MRead w m vF vO vR) {g : Nat} {o : Obj} (hg : w.grownBy w' (some g)) (ho : w.heap[g]? = some o) (ht : ∀ cs t fr, o = .cells cs t fr → t ≠ 53 ∧ t ≠ 9 ∧ t ≠ 2) : MRead w' m vF vO vR := by
  have key : ∀ {e : TypeId} {size : Nat} {v : Value} {n : Nat} {xs : List Value}, w.ownsRow 0 e size v n xs → (e = 53 ∨ e = 9 ∨ e = 2) → w'.ownsRow 0 e size v n xs := by
    intro e size v n xs hr he
    refine hr.kept hg ?_
    rcases hr.2 with ⟨rfl, _⟩ | ⟨g', cap, cur, rfl, _, h2, _⟩
    · exact .inl rfl
    · right
      simp only [Value.ownBlock, ne_eq, Option.some.injEq]
      rintro rfl
      rw [h2] at ho
      obtain rfl := Option.some.inj ho
      have := ht _ _ _ rfl
      rcases he with rfl | rfl | rfl
      · exact this.1 rfl
      · exact this.2.1 rfl
      · exact this.2.2 rfl
  exact ⟨key h.f (.inl rfl), key h.o (.inr (.inl rfl)), key h.r (.inr (.inr rfl))⟩
theorem msgM_wt (E : Nat) (s : S) : (msgM E s).wt = 0 := rfl
theorem new_box (w : World) (name : ByteArray) (m : Ms) (hn : name = txt m.name) (h0 : m.F = [] ∧ m.ones = [] ∧ m.res = []) {M : Nat} (hb : w.heap[M]? = some (.cells #[.string name, .slice none 0 0, .slice none 0 0, .slice none 0 0, .int .i64 m.at_] 51 (0, 0))) : MBox w M m := by
  obtain ⟨h1, h2, h3⟩ := h0
  refine ⟨.slice none 0 0, .slice none 0 0, .slice none 0 0, by rw [← hn]; exact hb, ?_, ?_, ?_⟩
  · rw [h1]; exact World.ownsRow_nil _ _ _ _
  · rw [h2]; exact World.ownsRow_nil _ _ _ _
  · rw [h3]; exact World.ownsRow_nil _ _ _ _

set_option maxHeartbeats 2000000 in
theorem message_any (P E : Nat) (s : S) (w : World) (hp : PSt w P E s) (hst : s.st = false) (hn : s.mu ≤ 50000) :
    Calls Tryz.prog 117 #[.pointer (some ⟨P, 0, none⟩)] w (MsPost P E w (messageF E s)) := by
  have hPl := hp.lt
  have hmu1 := msgS_mu s hst
  have H0 := Lib.hid (fun w h => place_any P E s w h)
  have H1 := Lib.hid (fun w h => word_any7 P E s ⟨#[109, 101, 115, 115, 97, 103, 101]⟩ w h)
  have H2 := Lib.hid (fun w h => name_any7 P E (s.word wMessage) w h)
  have H3 := Lib.hid (fun w h => sign_any7 P E (s.word wMessage).name ⟨#[123]⟩ w h)
  have HS : Hid (messageF E s = ((itemsF E (msgS s) (msgM E s)).1.sign [125], (itemsF E (msgS s) (msgM E s)).2)) := Lib.hid rfl
  have HMM : Hid (msgM E s = ⟨(s.word wMessage).nameT, [], [], [], s.place E⟩) := Lib.hid rfl
  have HMU := Lib.hid hmu1
  have HP := Lib.hid hp
  clear hp hst hmu1
  go_enter Tryz.func117, Tryz.ntmps117
  go_wp2_with fail
  refine (H0.out _ (HP.out.alloc _)).mono ?_
  rintro e w0 ⟨rfl, rfl⟩
  go_wp2_with fail
  refine (H1.out _ ((HP.out.alloc _).alloc _)).mono ?_
  rintro e w1 ⟨rfl, hp1, hg1⟩
  have hs1 := hg1.size
  simp at hs1
  have HK1 := Lib.hid ((((Kp.refl w.heap.size P w).alloc (Nat.le_refl _) _).alloc (by simp) _).taken hg1 (by simp; omega))
  have HR1 := Lib.hid (stays (heap_first w _ _ rfl) hg1 hPl)
  have HB1 := Lib.hid (stays (heap_second w _ _) hg1 (by omega))
  clear hg1
  go_wp2_with fail
  refine (H2.out w1 hp1).mono ?_
  rintro e w2 ⟨rfl, hp2, hg2⟩
  have hs2 := hg2.size
  have HK2 := Lib.hid (HK1.out.taken hg2 (by omega))
  have HR2 := Lib.hid (stays HR1.out hg2 hPl)
  have HB2 := Lib.hid (stays HB1.out hg2 (by omega))
  have c0 := heap_cell HB2.out 0
  have f0 := heap_free HB2.out 0
  simp at c0
  clear hg2 HK1 HR1 HB1
  go_wp2_with fail
  refine (H3.out _ (hp2.setCell (by simp; omega) _)).mono ?_
  rintro e w3 ⟨rfl, hp3, hg3⟩
  have hs3 := hg3.size
  simp [World.setCell] at hs3
  have HK3 := Lib.hid ((HK2.out.setCell (by simp) _).taken hg3 (by simp [World.setCell]; omega))
  have HR3 := Lib.hid (stays ((Below.heap_setCell w2 _ _ _ (by simp)).trans HR2.out) hg3 hPl)
  have hb3 := stays (heap_setCell_same HB2.out _) hg3 (by omega)
  simp at hb3
  have HM3 : Hid (MBox w3 (w.heap.size + 1) (msgM E s)) := Lib.hid (new_box w3 _ _ (by rw [HMM.out]) ⟨rfl, rfl, rfl⟩ (by rw [hb3, HMM.out]))
  have HP3 : Hid (PSt w3 P E (msgS s)) := Lib.hid hp3
  clear hg3 HK2 HR2 HB2 c0 f0 hb3 hp3
  generalize hX : itemsF E (msgS s) (msgM E s) = X at *
  have HX := Lib.hid hX
  clear hX
  go_wp2
  go_loopw [4] (fun _ wr => ItRel P E (w.heap.size + 1) w3 X 50000 wr) (fun _ wr => muW wr P)
  case atStart => exact ⟨msgS s, msgM E s, HP3.out, HM3.out, Kp.refl _ _ _, HX.out, by have := HMU.out; have := msgM_wt E s; omega⟩
  case round =>
    obtain ⟨s5, m5, hp5, hm5, hk5, hx5, hw5⟩ := hrel
    have HX5 := Lib.hid hx5
    have HM5 := Lib.hid hm5
    have HK5 := Lib.hid hk5
    have HP5 := Lib.hid hp5
    have hmu5 := hp5.mu
    have hI := inside_any P E s5 _ hp5
    clear hx5 hm5 hk5 hp5
    cases hin : s5.inside
    · rw [hin] at hI
      have HI := Lib.hid hI
      have HE : Hid (X = (s5, m5)) := Lib.hid (by rw [← HX5.out, itemsF, dif_neg (by rw [hin]; decide)])
      clear hI hin
      have HMU5 := Lib.hid hmu5
      clear hmu5
      go_wp2_with fail
      refine HI.out.mono ?_
      rintro e w6 ⟨rfl, rfl⟩
      go_wp2_with fail
      refine (sign_any7 P E s5 ⟨#[125]⟩ _ HP5.out).mono ?_
      rintro e w7 ⟨rfl, hp7, hg7⟩
      have hsr := HK5.out.size
      obtain ⟨vF, vO, vR, hr7⟩ := (HM5.out.taken hg7 (by omega)).open_
      have hk7 := HK5.out.taken hg7 (by omega)
      have hR7 := (hk7.block w.heap.size (by omega) (by omega)).trans HR3.out
      have HR7 := Lib.hid hr7
      have HB7 := Lib.hid hr7.box
      have HK7 : Hid (Kp w.heap.size P w w7) := Lib.hid (HK3.out.trans (hk7.mono (by omega)))
      have HRR := Lib.hid hR7
      have g1 := own_one hr7.f
      have g2 := own_one hr7.o
      have g3 := own_one hr7.r
      clear hr7 hk7 hR7
      go_wp2_with (refine wpList_load_ms rfl _ rfl (w.heap.size + 1) _ _ _ _ _ rfl _ _ HB7.out ?_; refine wpList_store_ms rfl _ _ rfl rfl w.heap.size _ _ _ _ _ _ _ _ _ _ rfl rfl g1 g2 g3 _ HRR.out ?_)
      refine bodyPost_ret (results_ms rfl _ _ w.heap.size _ _ _ _ _ _ (0, 0) rfl (setRow_heap _ _ _ _ _ _ HRR.out)) rfl ?_
      rw [HS.out, HE.out]
      have hgr : w7.grownBy (w7.setRow w.heap.size #[.string (txt m5.name), vF, vO, vR, .int .i64 m5.at_]) (some w.heap.size) := ⟨rfl, rfl, rfl, by simp, fun k _ hk => setRow_other _ _ _ _ (by simpa using hk)⟩
      exact ⟨vF, vO, vR, rfl, HR7.out.read.kept hgr HRR.out (by intro cs t fr h; cases h; decide), hp7.setRow (by omega) _, (HK7.out.setRow (Nat.le_refl _) _).out⟩
    · rw [hin] at hI
      have HI := Lib.hid hI
      have hst5 := S.inside_st hin
      have HN : Hid (itemsF E (itemF E s5 m5).1 (itemF E s5 m5).2 = X) := Lib.hid (by rw [← HX5.out, itemsF_in E s5 m5 hin])
      have hwt := itemF_wt E s5 m5 hst5
      have HIT := Lib.hid (item_any P E s5 wr HP5.out)
      have HRD := Lib.hid (item_read P E (w.heap.size + 1) s5 m5 wr HP5.out HM5.out (by omega) hst5 (by omega))
      have hen := item_enters s5
      have HWT := Lib.hid hwt
      clear hI hin hst5 hwt
      have HMU5 := Lib.hid hmu5
      clear hmu5
      go_wp2_with fail
      refine HI.out.mono ?_
      rintro e w6 ⟨rfl, rfl⟩
      go_wp2_with fail
      refine HIT.out.mono ?_
      rintro e w6 ⟨rfl, rfl⟩
      unfold itemV
      go_wp2_with fail
      refine HRD.out.mono ?_
      rintro e w7 ⟨rfl, hp7, hm7, hk7⟩
      go_wp2
      refine ⟨⟨_, _, hp7, hm7, HK5.out.trans hk7, HN.out, by have := HWT.out; omega⟩, ?_⟩
      rw [hp7.mu, HMU5.out]
      have := HWT.out
      omega
end Go.Proofs.YtciiemomfniecaaGreatDoor
/-
  An enum is read: the contract.
-/
namespace Go.Proofs.YtciiemomfniecaaGreatDoor
set_option maxRecDepth 100000

open Go.RowKit

def VC (v : Vl) : List Value := [.string (txt v.name), .int .i64 v.n, .int .i64 v.at_]
def vlv (l : List Vl) : List Value := l.flatMap VC
theorem vlv_append (a b : List Vl) : vlv (a ++ b) = vlv a ++ vlv b := by simp [vlv]
theorem vlv_one (d : Vl) : vlv [d] = VC d := by simp [vlv]
theorem vlv_cells (l : List Vl) : ∀ u ∈ vlv l, u.oneCell' = true := by
  intro u hu
  obtain ⟨r, _, hr⟩ := List.mem_flatMap.1 hu
  simp only [VC, List.mem_cons, List.not_mem_nil, or_false] at hr
  rcases hr with rfl | rfl | rfl <;> rfl
theorem infoVls : (Tryz.prog.info? 83).map (fun i => (i.zero, i.size, i.bytes)) = some (some (.agg #[.string ⟨#[]⟩, .int .i64 0, .int .i64 0]), 3, 32) := by kernel_rfl
/-- An enum under way: its block, and its row. -/
structure ERow (w : World) (M : Nat) (e : En) (vV : Value) : Prop where
  box : w.heap[M]? = some (.cells #[.string (txt e.name), vV, .int .i64 e.at_] 65 (0, 0))
  v : w.ownsRow (M + 1) 83 3 vV e.V.length (vlv e.V)
theorem ERow.lt {w : World} {M : Nat} {e : En} {vV : Value} (h : ERow w M e vV) : M < w.heap.size := (Array.getElem?_eq_some_iff.1 h.box).1
theorem ERow.kept {w w' : World} {M : Nat} {e : En} {vV : Value} (h : ERow w M e vV) (hk : ∀ k, M ≤ k → k < w.heap.size → w'.heap[k]? = w.heap[k]?) : ERow w' M e vV :=
  ⟨(hk M (Nat.le_refl _) h.lt).trans h.box, own_kept (B := 0) (P := 0) h.v (fun k hk1 hk2 => hk k (by omega) hk2)⟩
theorem ERow.taken {w w' : World} {P M : Nat} {e : En} {vV : Value} (h : ERow w M e vV) (hg : w.grownBy w' (some P)) (hP : P < M) : ERow w' M e vV :=
  h.kept fun k hk1 hk2 => hg.block k hk2 (by simp; omega)
theorem ERow.alloc {w : World} {M : Nat} {e : En} {vV : Value} (h : ERow w M e vV) (o : Obj) : ERow (w.alloc o) M e vV :=
  h.kept fun k _ hk2 => Below.heap_alloc w o k hk2
theorem ERow.far {w w' : World} {P M : Nat} {e : En} {vV : Value} (h : ERow w M e vV) (hk : Kp w.heap.size P w w') (hP : P < M) : ERow w' M e vV :=
  h.kept fun k hk1 hk2 => hk.block k hk2 (by omega)
theorem ERow.add {w w' : World} {M : Nat} {e : En} {vV v : Value} {d : Vl} (h : ERow w M e vV) (hg : w.grownBy w' vV.ownBlock) (hown : w'.ownsRow (M + 1) 83 3 v (e.V.length + 1) (vlv e.V ++ VC d)) :
    ERow (w'.setCell ⟨M, 1, none⟩ v) M { e with V := e.V ++ [d] } v := by
  have hb : w'.heap[M]? = _ := (hg.block M h.lt (fun e => by have := own_M h.v M e.symm; omega)).trans h.box
  refine ⟨?_, ?_⟩
  · have := heap_setCell_same hb (j := 1) v
    simpa using this
  · have := own_set hown (a := ⟨M, 1, none⟩) (by simp) v
    simpa [vlv_append, vlv_one] using this
def EnV (e : En) (vV : Value) : Value := .agg #[.string (txt e.name), vV, .int .i64 e.at_]
theorem infoEn : (Tryz.prog.info? 65).map (·.size) = some 3 := by kernel_rfl
theorem infoVl : (Tryz.prog.info? 83).map (·.size) = some 3 := by kernel_rfl
theorem wpList_store_en {ops : Array Oper} {rest : List Oper} {o : Oper} {a : Act} {w : World} {Q : Exit → Act → World → Prop} (hgd : o.guard = none) (x y : Operand) (ho : o.op = .store 65 x y)
    (hd : o.dst = none) (g : Nat) (b0 : ByteArray) (v1 : Value) (b2 : Int) (u0 u1 u2 : Value) (hx : a.eval x = .pointer (some ⟨g, 0, none⟩)) (hy : a.eval y = .agg #[.string b0, v1, .int .i64 b2])
    (h1 : v1.oneCell' = true) (t : TypeId) (hg : w.heap[g]? = some (.cells #[u0, u1, u2] t (0, 0)))
    (h : wpList Tryz.prog ops Q rest a (w.setRow g #[.string b0, v1, .int .i64 b2])) : wpList Tryz.prog ops Q (o :: rest) a w :=
  wpList_store_rowTo hgd 65 x y ho hd g _ hx hy t _ hg infoEn rfl (by simp [h1]; simp [Value.oneCell']) h
theorem wpList_load_en {ops : Array Oper} {rest : List Oper} {o : Oper} {a : Act} {w : World} {Q : Exit → Act → World → Prop} (hgd : o.guard = none) (x : Operand) (ho : o.op = .load 65 x)
    (g : Nat) (u0 u1 u2 : Value) (hx : a.eval x = .pointer (some ⟨g, 0, none⟩)) (t : TypeId) (fr : Nat × Nat) (hg : w.heap[g]? = some (.cells #[u0, u1, u2] t fr))
    (h : wpList Tryz.prog ops Q rest (a.put o.dst (.agg #[u0, u1, u2])) w) : wpList Tryz.prog ops Q (o :: rest) a w :=
  wpList_load_row hgd 65 x ho g hx t _ fr _ hg Tryz.underlying65 rfl infoEn h
theorem results_en {fn : Func} {p : Tmp} (h : fn.results = #[.cell p 65]) (tmps : Array Value) (w : World) (g : Nat) (t : TypeId) (u0 u1 u2 : Value) (fr : Nat × Nat)
    (hp : tmps.getD p undef = .pointer (some ⟨g, 0, none⟩)) (hg : w.heap[g]? = some (.cells #[u0, u1, u2] t fr)) :
    (results fn tmps).run Tryz.prog w = .ok (.agg #[u0, u1, u2]) w :=
  results_cell_row h tmps w g t _ fr _ hp hg Tryz.underlying65 rfl infoEn
theorem valsF_in (E : Nat) (s : S) (e : En) (h : s.inside = true) : valsF E s e = valsF E s.nbd { e with V := e.V ++ [⟨s.nameT, s.nbdNo, s.place E⟩] } := by rw [valsF, dif_pos h]
def VlRel (P E M : Nat) (w : World) (X : S × En) (K : Nat) (wr : World) : Prop := ∃ s e vV, PSt wr P E s ∧ ERow wr M e vV ∧ Kp M P w wr ∧ valsF E s e = X ∧ e.V.length + s.mu ≤ K
def ERead (w : World) (e : En) (vV : Value) : Prop := w.ownsRow 0 83 3 vV e.V.length (vlv e.V)
def EnPost (P E : Nat) (w : World) (X : S × En) (e : Ending) (w' : World) : Prop := ∃ vV, e = .returned (EnV X.2 vV) ∧ ERead w' X.2 vV ∧ PSt w' P E X.1 ∧ w.grownBy w' (some P)
/-- A row of one type stays while a block of another type is written. -/
theorem own_other {w w' : World} {b : Nat} {e : TypeId} {size : Nat} {v : Value} {n : Nat} {xs : List Value} (hr : w.ownsRow b e size v n xs) {g : Nat} {cs : Array Value} {t : TypeId} {fr : Nat × Nat} (hg : w.grownBy w' (some g)) (ho : w.heap[g]? = some (.cells cs t fr)) (ht : t ≠ e) : w'.ownsRow b e size v n xs := by
  refine hr.kept hg ?_
  rcases hr.2 with ⟨rfl, _⟩ | ⟨g', cap, cur, rfl, _, h2, _⟩
  · exact .inl rfl
  · right
    simp only [Value.ownBlock, ne_eq, Option.some.injEq]
    rintro rfl
    rw [h2] at ho
    simp only [Option.some.injEq, Obj.cells.injEq] at ho
    exact ht ho.2.1.symm
theorem heap_new_set0 (w : World) (a b : Addr) (u v : Value) (o : Obj) : (((w.setCell a u).setCell b v).alloc o).heap[w.heap.size]? = some o := by
  have := heap_alloc_new ((w.setCell a u).setCell b v) o
  simpa [World.setCell] using this
theorem new_enum (w : World) (name : ByteArray) (e : En) (hn : name = txt e.name) (h0 : e.V = []) {M : Nat} (hb : w.heap[M]? = some (.cells #[.string name, .slice none 0 0, .int .i64 e.at_] 65 (0, 0))) : ERow w M e (.slice none 0 0) :=
  ⟨by rw [← hn]; exact hb, by rw [h0]; exact World.ownsRow_nil _ _ _ _⟩

set_option maxHeartbeats 2000000 in
theorem enum_any (P E : Nat) (s : S) (w : World) (hp : PSt w P E s) (hst : s.st = false) (hn : s.mu ≤ 50000) :
    Calls Tryz.prog 116 #[.pointer (some ⟨P, 0, none⟩)] w (EnPost P E w (enumF E s)) := by
  obtain ⟨j0, hj, hy0, hy1, hy2⟩ := info_parts infoVls
  have hPl := hp.lt
  have hmu1 := enS_mu s hst
  have H0 := Lib.hid (fun s w h => place_any P E s w h)
  have H1 := Lib.hid (fun w h => word_any7 P E s ⟨#[101, 110, 117, 109]⟩ w h)
  have H2 := Lib.hid (fun w h => name_any7 P E (s.word wEnum) w h)
  have H3 := Lib.hid (fun w h => sign_any7 P E (s.word wEnum).name ⟨#[123]⟩ w h)
  have HS : Hid (enumF E s = ((valsF E (enS s) (enE E s)).1.sign [125], (valsF E (enS s) (enE E s)).2)) := Lib.hid rfl
  have HMM : Hid (enE E s = ⟨(s.word wEnum).nameT, [], s.place E⟩) := Lib.hid rfl
  have HMU := Lib.hid hmu1
  have HP := Lib.hid hp
  clear hp hst hmu1
  go_enter Tryz.func116, Tryz.ntmps116
  go_wp2_with fail
  refine (H0.out _ _ (HP.out.alloc _)).mono ?_
  rintro e w0 ⟨rfl, rfl⟩
  go_wp2_with fail
  refine (H1.out _ ((HP.out.alloc _).alloc _)).mono ?_
  rintro e w1 ⟨rfl, hp1, hg1⟩
  have hs1 := hg1.size
  simp at hs1
  have HK1 := Lib.hid ((((Kp.refl w.heap.size P w).alloc (Nat.le_refl _) _).alloc (by simp) _).taken hg1 (by simp; omega))
  have HR1 := Lib.hid (stays (heap_first w _ _ rfl) hg1 hPl)
  have HB1 := Lib.hid (stays (heap_second w _ _) hg1 (by omega))
  clear hg1
  go_wp2_with fail
  refine (H2.out w1 hp1).mono ?_
  rintro e w2 ⟨rfl, hp2, hg2⟩
  have hs2 := hg2.size
  have HK2 := Lib.hid (HK1.out.taken hg2 (by omega))
  have HR2 := Lib.hid (stays HR1.out hg2 hPl)
  have HB2 := Lib.hid (stays HB1.out hg2 (by omega))
  have c0 := heap_cell HB2.out 0
  have f0 := heap_free HB2.out 0
  simp at c0
  clear hg2 HK1 HR1 HB1
  go_wp2_with fail
  refine (H3.out _ (hp2.setCell (by simp; omega) _)).mono ?_
  rintro e w3 ⟨rfl, hp3, hg3⟩
  have hs3 := hg3.size
  simp [World.setCell] at hs3
  have HK3 := Lib.hid ((HK2.out.setCell (by simp) _).taken hg3 (by simp [World.setCell]; omega))
  have HR3 := Lib.hid (stays ((Below.heap_setCell w2 _ _ _ (by simp)).trans HR2.out) hg3 hPl)
  have hb3 := stays (heap_setCell_same HB2.out _) hg3 (by omega)
  simp at hb3
  have HM3 : Hid (ERow w3 (w.heap.size + 1) (enE E s) (.slice none 0 0)) := Lib.hid (new_enum w3 _ _ (by rw [HMM.out]) rfl (by rw [hb3, HMM.out]))
  have HP3 : Hid (PSt w3 P E (enS s)) := Lib.hid hp3
  clear hg3 HK2 HR2 HB2 c0 f0 hb3 hp3
  generalize hX : valsF E (enS s) (enE E s) = X at *
  have HX := Lib.hid hX
  clear hX
  go_wp2
  go_loopw [4] (fun _ wr => VlRel P E (w.heap.size + 1) w3 X 50000 wr) (fun _ wr => muW wr P)
  case atStart => exact ⟨enS s, enE E s, _, HP3.out, HM3.out, Kp.refl _ _ _, HX.out, by have := HMU.out; show 0 + _ ≤ _; omega⟩
  case round =>
    obtain ⟨s5, m5, vV, hp5, hm5, hk5, hx5, hw5⟩ := hrel
    have HX5 := Lib.hid hx5
    have HM5 := Lib.hid hm5
    have HK5 := Lib.hid hk5
    have HP5 := Lib.hid hp5
    have hmu5 := hp5.mu
    have hI := inside_any P E s5 _ hp5
    clear hx5 hm5 hk5 hp5
    cases hin : s5.inside
    · rw [hin] at hI
      have HI := Lib.hid hI
      have HE : Hid (X = (s5, m5)) := Lib.hid (by rw [← HX5.out, valsF, dif_neg (by rw [hin]; decide)])
      clear hI hin
      have HMU5 := Lib.hid hmu5
      clear hmu5
      go_wp2_with fail
      refine HI.out.mono ?_
      rintro e w6 ⟨rfl, rfl⟩
      go_wp2_with fail
      refine (sign_any7 P E s5 ⟨#[125]⟩ _ HP5.out).mono ?_
      rintro e w7 ⟨rfl, hp7, hg7⟩
      have hsr := HK5.out.size
      have hr7 := HM5.out.taken hg7 (by omega)
      have hk7 := HK5.out.taken hg7 (by omega)
      have hR7 := (hk7.block w.heap.size (by omega) (by omega)).trans HR3.out
      have HR7 := Lib.hid hr7
      have HB7 := Lib.hid hr7.box
      have HK7 : Hid (Kp w.heap.size P w w7) := Lib.hid (HK3.out.trans (hk7.mono (by omega)))
      have HRR := Lib.hid hR7
      have g1 := own_one hr7.v
      clear hr7 hk7 hR7
      go_wp2_with (refine wpList_load_en rfl _ rfl (w.heap.size + 1) _ _ _ rfl _ _ HB7.out ?_; refine wpList_store_en rfl _ _ rfl rfl w.heap.size _ _ _ _ _ _ rfl rfl g1 _ HRR.out ?_)
      refine bodyPost_ret (results_en rfl _ _ w.heap.size _ _ _ _ (0, 0) rfl (setRow_heap _ _ _ _ _ _ HRR.out)) rfl ?_
      rw [HS.out, HE.out]
      have hgr : w7.grownBy (w7.setRow w.heap.size #[.string (txt m5.name), vV, .int .i64 m5.at_]) (some w.heap.size) := ⟨rfl, rfl, rfl, by simp, fun k _ hk => setRow_other _ _ _ _ (by simpa using hk)⟩
      exact ⟨vV, rfl, own_other (own_mono HR7.out.v (Nat.zero_le _)) hgr HRR.out (by decide), hp7.setRow (by omega) _, (HK7.out.setRow (Nat.le_refl _) _).out⟩
    · rw [hin] at hI
      have HI := Lib.hid hI
      have hst5 := S.inside_st hin
      have HN := Lib.hid (show valsF E s5.nbd { m5 with V := m5.V ++ [⟨s5.nameT, s5.nbdNo, s5.place E⟩] } = X by rw [← HX5.out, valsF_in E s5 m5 hin])
      have hmu6 := (S.nbd_mu s5).2 hst5
      have HC : Hid (VC ⟨s5.nameT, s5.nbdNo, s5.place E⟩ = [.string (txt s5.nameT), .int .i64 s5.nbdNo, .int .i64 (s5.place E)]) := Lib.hid rfl
      have HB := Lib.hid (fun w h => nbd_any7 P E s5 w h)
      have hsr := HK5.out.size
      clear hI hin hst5
      have HMU5 := Lib.hid hmu5
      clear hmu5
      go_wp2_with fail
      refine HI.out.mono ?_
      rintro e w6 ⟨rfl, rfl⟩
      go_wp2_with fail
      refine (H0.out _ _ HP5.out).mono ?_
      rintro e w6 ⟨rfl, rfl⟩
      go_wp2_with fail
      refine (HB.out _ (HP5.out.alloc _)).mono ?_
      rintro e w7 ⟨rfl, hp7, hg7⟩
      have hs7 := hg7.size
      simp at hs7
      have hM5 := HM5.out.lt
      have hb7 := stays (heap_alloc_new wr _) hg7 (by omega)
      have hk7 := ((Kp.refl wr.heap.size P wr).alloc (Nat.le_refl _) (.cells #[.string ⟨#[]⟩, .int .i64 0, .int .i64 (s5.place E)] 83)).taken hg7 (by simp)
      have HK7 := Lib.hid ((hk7.setCell (p := ⟨wr.heap.size, 0, none⟩) (Nat.le_refl _) (.string (txt s5.nameT))).setCell (p := ⟨wr.heap.size, 1, none⟩) (Nat.le_refl _) (.int .i64 s5.nbdNo))
      have hr7 := HM5.out.far hk7 (by omega)
      have c0 := heap_cell hb7 0
      have c1 := heap_cell hb7 1
      have c2 := heap_cell hb7 2
      have f0 := heap_free hb7 0
      have f1 := heap_free hb7 1
      simp at c0 c1 c2
      have cM := heap_cell hr7.box 1
      simp at cM
      have HR7 := Lib.hid ((HM5.out.far HK7.out (by omega)).alloc (.cells #[.string (txt s5.nameT), .int .i64 s5.nbdNo, .int .i64 (s5.place E)] 83))
      have hM7 := hr7.lt
      clear hb7 hr7 hk7 hg7
      go_wp2_with (at_builtin; refine wpList_append_lies _ rfl _ _ _ rfl (w.heap.size + 2) 83 j0 _ 3 32 Tryz.underlying63 hj hy0 hy1 hy2 rfl (by omega) vV m5.V.length (vlv m5.V) rfl HR7.out.v ⟨w7.heap.size, 0, none⟩ 1 1 (VC ⟨s5.nameT, s5.nbdNo, s5.place E⟩) rfl rfl (by rw [HC.out]; exact World.news_of_block (heap_new_set0 w7 _ _ _ _ _)) (by intro u hu; exact vlv_cells [_] u (by rw [vlv_one]; exact hu)) (by omega) (by unfold maxLen; omega) (by omega) (by simp [World.setCell]; omega) (w7.heap.size + 1) (by simp [World.setCell]) ?_; intro g8 cap8 w8 hown8 hg8 hat8 hlt8; have hb8 := (hg8.block _ HR7.out.lt (fun e => by have := own_M HR7.out.v _ e.symm; omega)).trans HR7.out.box; have c8 := heap_cell hb8 1; have f8 := heap_free hb8 1; simp at c8; have HB8 := Lib.hid hb8; clear hb8)
      have hp9 := (((hp7.setCell (a := ⟨wr.heap.size, 0, none⟩) (by simp; omega) (.string (txt s5.nameT))).setCell (a := ⟨wr.heap.size, 1, none⟩) (by simp; omega) (.int .i64 s5.nbdNo)).alloc _).past (v := .slice (some ⟨g8, 0, none⟩) (m5.V.length + 1) cap8) (by omega) HR7.out.v hg8 1
      refine ⟨⟨s5.nbd, _, _, hp9, HR7.out.add hg8 hown8, HK5.out.trans (((HK7.out.mono (by omega)).alloc (by simp [World.setCell]; omega) _).past (by simp [World.setCell]; omega) HR7.out.v hg8 1), HN.out, by simp; omega⟩, ?_⟩
      rw [hp9.mu, HMU5.out]
      omega
end Go.Proofs.YtciiemomfniecaaGreatDoor
/-
  A file is read: its rows of messages and of enums; the contract.
-/
namespace Go.Proofs.YtciiemomfniecaaGreatDoor
set_option maxRecDepth 100000

open Go.RowKit

/-- The types of the innermost rows. -/
def leafT (t : TypeId) : Bool := t == 53 || t == 9 || t == 2 || t == 83
/-- The innermost rows stay. -/
def Leaf (w w' : World) : Prop := ∀ (k : Nat) (cs : Array Value) (t : TypeId), w.heap[k]? = some (Obj.cells cs t (0, 0)) → leafT t = true → w'.heap[k]? = w.heap[k]?
theorem Leaf.refl (w : World) : Leaf w w := fun _ _ _ _ _ => rfl
theorem Leaf.trans {a b c : World} (h : Leaf a b) (k : Leaf b c) : Leaf a c := fun i cs t hi ht => (k i cs t ((h i cs t hi ht).trans hi) ht).trans (h i cs t hi ht)
theorem Leaf.below {w w' : World} (h : Below w.heap.size w w') : Leaf w w' := fun i _ _ hi _ => h.block i (Array.getElem?_eq_some_iff.1 hi).1
theorem Leaf.alloc (w : World) (o : Obj) : Leaf w (w.alloc o) := fun i _ _ hi _ => Below.heap_alloc w o i (Array.getElem?_eq_some_iff.1 hi).1
theorem Leaf.grown {w w' : World} {g : Nat} {cs : Array Value} {t : TypeId} {fr : Nat × Nat} (hg : w.grownBy w' (some g)) (ho : w.heap[g]? = some (.cells cs t fr)) (ht : leafT t = false) : Leaf w w' := fun i cs' t' hi hl => by
  refine hg.block i (Array.getElem?_eq_some_iff.1 hi).1 ?_
  simp only [ne_eq, Option.some.injEq]
  rintro rfl
  rw [hi] at ho
  simp only [Option.some.injEq, Obj.cells.injEq] at ho
  rw [ho.2.1, ht] at hl
  cases hl
theorem Leaf.own {w w' : World} {b : Nat} {e : TypeId} {size : Nat} {v : Value} {n : Nat} {xs : List Value} (hr : w.ownsRow b e size v n xs) (hg : w.grownBy w' v.ownBlock) (ht : leafT e = false) : Leaf w w' := by
  rcases hr.2 with ⟨rfl, _⟩ | ⟨g', cap, cur, rfl, _, h2, _⟩
  · exact fun i _ _ hi _ => hg.block i (Array.getElem?_eq_some_iff.1 hi).1 (by simp [Value.ownBlock])
  · exact Leaf.grown hg h2 ht
theorem own_leaf {w w' : World} {b : Nat} {e : TypeId} {size : Nat} {v : Value} {n : Nat} {xs : List Value} (hr : w.ownsRow b e size v n xs) (h : Leaf w w') (ht : leafT e = true) : w'.ownsRow b e size v n xs := by
  rcases hr with ⟨hl, ⟨rfl, rfl⟩ | ⟨g, cap, cur, rfl, h1, h2, h3⟩⟩
  · exact ⟨hl, .inl ⟨rfl, rfl⟩⟩
  · exact ⟨hl, .inr ⟨g, cap, cur, rfl, h1, (h g _ _ h2 ht).trans h2, h3⟩⟩
theorem MRead.leaf {w w' : World} {m : Ms} {vF vO vR : Value} (h : MRead w m vF vO vR) (hl : Leaf w w') : MRead w' m vF vO vR := ⟨own_leaf h.f hl rfl, own_leaf h.o hl rfl, own_leaf h.r hl rfl⟩
theorem ERead.leaf {w w' : World} {e : En} {vV : Value} (h : ERead w e vV) (hl : Leaf w w') : ERead w' e vV := own_leaf h hl rfl
def MC (m : Ms) (vF vO vR : Value) : List Value := [.string (txt m.name), vF, vO, vR, .int .i64 m.at_]
def EC (e : En) (vV : Value) : List Value := [.string (txt e.name), vV, .int .i64 e.at_]
/-- Cells that read as messages. -/
def MsAre (w : World) : List Ms → List Value → Prop
  | [], xs => xs = []
  | m :: l, xs => ∃ vF vO vR ys, xs = MC m vF vO vR ++ ys ∧ MRead w m vF vO vR ∧ MsAre w l ys
def EnAre (w : World) : List En → List Value → Prop
  | [], xs => xs = []
  | e :: l, xs => ∃ vV ys, xs = EC e vV ++ ys ∧ ERead w e vV ∧ EnAre w l ys
theorem MsAre.leaf {w w' : World} (hl : Leaf w w') : ∀ {l : List Ms} {xs : List Value}, MsAre w l xs → MsAre w' l xs
  | [], _, h => h
  | _ :: _, _, ⟨vF, vO, vR, ys, h1, h2, h3⟩ => ⟨vF, vO, vR, ys, h1, h2.leaf hl, h3.leaf hl⟩
theorem EnAre.leaf {w w' : World} (hl : Leaf w w') : ∀ {l : List En} {xs : List Value}, EnAre w l xs → EnAre w' l xs
  | [], _, h => h
  | _ :: _, _, ⟨vV, ys, h1, h2, h3⟩ => ⟨vV, ys, h1, h2.leaf hl, h3.leaf hl⟩
theorem MsAre.snoc {w : World} {m : Ms} {vF vO vR : Value} (hm : MRead w m vF vO vR) : ∀ {l : List Ms} {xs : List Value}, MsAre w l xs → MsAre w (l ++ [m]) (xs ++ MC m vF vO vR)
  | [], xs, h => by cases h; exact ⟨vF, vO, vR, [], by simp, hm, rfl⟩
  | _ :: _, _, ⟨a, b, c, ys, h1, h2, h3⟩ => ⟨a, b, c, ys ++ MC m vF vO vR, by rw [h1]; simp, h2, h3.snoc hm⟩
theorem EnAre.snoc {w : World} {m : En} {vV : Value} (hm : ERead w m vV) : ∀ {l : List En} {xs : List Value}, EnAre w l xs → EnAre w (l ++ [m]) (xs ++ EC m vV)
  | [], xs, h => by cases h; exact ⟨vV, [], by simp, hm, rfl⟩
  | _ :: _, _, ⟨a, ys, h1, h2, h3⟩ => ⟨a, ys ++ EC m vV, by rw [h1]; simp, h2, h3.snoc hm⟩
theorem MRead.cells {w : World} {m : Ms} {vF vO vR : Value} (h : MRead w m vF vO vR) : ∀ u ∈ MC m vF vO vR, u.oneCell' = true := by
  intro u hu
  simp only [MC, List.mem_cons, List.not_mem_nil, or_false] at hu
  rcases hu with rfl | rfl | rfl | rfl | rfl
  · rfl
  · exact own_one h.f
  · exact own_one h.o
  · exact own_one h.r
  · rfl
theorem ERead.cells {w : World} {m : En} {vV : Value} (h : ERead w m vV) : ∀ u ∈ EC m vV, u.oneCell' = true := by
  intro u hu
  simp only [EC, List.mem_cons, List.not_mem_nil, or_false] at hu
  rcases hu with rfl | rfl | rfl
  · rfl
  · exact own_one h
  · rfl
theorem infoMss : (Tryz.prog.info? 51).map (fun i => (i.zero, i.size, i.bytes)) = some (some (.agg #[.string ⟨#[]⟩, .slice none 0 0, .slice none 0 0, .slice none 0 0, .int .i64 0]), 5, 96) := by kernel_rfl
theorem infoEns : (Tryz.prog.info? 65).map (fun i => (i.zero, i.size, i.bytes)) = some (some (.agg #[.string ⟨#[]⟩, .slice none 0 0, .int .i64 0]), 3, 48) := by kernel_rfl
/-- A file under way: its block, and its rows. -/
structure FRow (w : World) (F : Nat) (f : Fl) (vM vE : Value) (xs ys : List Value) : Prop where
  box : w.heap[F]? = some (.cells #[vM, vE] 25 (0, 0))
  m : w.ownsRow (F + 1) 51 5 vM f.M.length xs
  ms : MsAre w f.M xs
  e : w.ownsRow (F + 1) 65 3 vE f.E.length ys
  es : EnAre w f.E ys
theorem FRow.lt {w : World} {F : Nat} {f : Fl} {vM vE : Value} {xs ys : List Value} (h : FRow w F f vM vE xs ys) : F < w.heap.size := (Array.getElem?_eq_some_iff.1 h.box).1
theorem FRow.kept {w w' : World} {F : Nat} {f : Fl} {vM vE : Value} {xs ys : List Value} (h : FRow w F f vM vE xs ys) (hk : ∀ k, F ≤ k → k < w.heap.size → w'.heap[k]? = w.heap[k]?) (hl : Leaf w w') : FRow w' F f vM vE xs ys :=
  ⟨(hk F (Nat.le_refl _) h.lt).trans h.box, own_kept (B := 0) (P := 0) h.m (fun k hk1 hk2 => hk k (by omega) hk2), h.ms.leaf hl, own_kept (B := 0) (P := 0) h.e (fun k hk1 hk2 => hk k (by omega) hk2), h.es.leaf hl⟩
theorem FRow.alloc {w : World} {F : Nat} {f : Fl} {vM vE : Value} {xs ys : List Value} (h : FRow w F f vM vE xs ys) (o : Obj) : FRow (w.alloc o) F f vM vE xs ys :=
  h.kept (fun k _ hk => Below.heap_alloc w o k hk) (Leaf.alloc w o)
theorem FRow.drew {w : World} {F : Nat} {f : Fl} {vM vE : Value} {xs ys : List Value} (h : FRow w F f vM vE xs ys) : FRow w.drew F f vM vE xs ys :=
  h.kept (fun _ _ _ => rfl) (fun _ _ _ _ _ => rfl)
theorem PSt.leaf {w w' : World} {P E : Nat} {s : S} (h : PSt w P E s) (hg : w.grownBy w' (some P)) : Leaf w w' := by
  obtain ⟨A, c, h1, _⟩ := h
  exact Leaf.grown hg h1 rfl
theorem FRow.taken {w w' : World} {P E F : Nat} {s : S} {f : Fl} {vM vE : Value} {xs ys : List Value} (h : FRow w F f vM vE xs ys) (hp : PSt w P E s) (hg : w.grownBy w' (some P)) (hP : P < F) : FRow w' F f vM vE xs ys :=
  h.kept (fun k hk1 hk2 => hg.block k hk2 (by simp; omega)) (hp.leaf hg)
theorem FRow.addM {w w' : World} {F : Nat} {f : Fl} {vM vE v : Value} {xs ys : List Value} {m : Ms} {vF vO vR : Value} (h : FRow w F f vM vE xs ys) (hm : MRead w m vF vO vR) (hg : w.grownBy w' vM.ownBlock) (hown : w'.ownsRow (F + 1) 51 5 v (f.M.length + 1) (xs ++ MC m vF vO vR)) :
    FRow (w'.setCell ⟨F, 0, none⟩ v) F { f with M := f.M ++ [m] } v vE (xs ++ MC m vF vO vR) ys := by
  have hb : w'.heap[F]? = _ := (hg.block F h.lt (fun e => by have := own_M h.m F e.symm; omega)).trans h.box
  have hl : Leaf w (w'.setCell ⟨F, 0, none⟩ v) := (Leaf.own h.m hg rfl).trans (Leaf.grown (grown_set w' F 0 v) hb rfl)
  refine ⟨?_, ?_, (h.ms.snoc hm).leaf hl, ?_, h.es.leaf hl⟩
  · have := heap_setCell_same hb (j := 0) v
    simpa using this
  · have := own_set hown (a := ⟨F, 0, none⟩) (by simp) v
    simpa using this
  · exact own_set (h.e.kept hg (own_apart h.e h.m (by decide))) (by simp) v
theorem FRow.addE {w w' : World} {F : Nat} {f : Fl} {vM vE v : Value} {xs ys : List Value} {m : En} {vV : Value} (h : FRow w F f vM vE xs ys) (hm : ERead w m vV) (hg : w.grownBy w' vE.ownBlock) (hown : w'.ownsRow (F + 1) 65 3 v (f.E.length + 1) (ys ++ EC m vV)) :
    FRow (w'.setCell ⟨F, 1, none⟩ v) F { f with E := f.E ++ [m] } vM v xs (ys ++ EC m vV) := by
  have hb : w'.heap[F]? = _ := (hg.block F h.lt (fun e => by have := own_M h.e F e.symm; omega)).trans h.box
  have hl : Leaf w (w'.setCell ⟨F, 1, none⟩ v) := (Leaf.own h.e hg rfl).trans (Leaf.grown (grown_set w' F 1 v) hb rfl)
  refine ⟨?_, ?_, h.ms.leaf hl, ?_, (h.es.snoc hm).leaf hl⟩
  · have := heap_setCell_same hb (j := 1) v
    simpa using this
  · exact own_set (h.m.kept hg (own_apart h.m h.e (by decide))) (by simp) v
  · have := own_set hown (a := ⟨F, 1, none⟩) (by simp) v
    simpa using this
/-- A file, as it is read. -/
def FRead (w : World) (f : Fl) (vM vE : Value) : Prop := ∃ xs ys, w.ownsRow 0 51 5 vM f.M.length xs ∧ MsAre w f.M xs ∧ w.ownsRow 0 65 3 vE f.E.length ys ∧ EnAre w f.E ys
theorem FRow.read {w : World} {F : Nat} {f : Fl} {vM vE : Value} {xs ys : List Value} (h : FRow w F f vM vE xs ys) : FRead w f vM vE := ⟨xs, ys, own_mono h.m (Nat.zero_le _), h.ms, own_mono h.e (Nat.zero_le _), h.es⟩
theorem FRead.on {w w' : World} {f : Fl} {vM vE : Value} (h : FRead w f vM vE) (hb : Below w.heap.size w w') : FRead w' f vM vE := by
  obtain ⟨xs, ys, h1, h2, h3, h4⟩ := h
  exact ⟨xs, ys, own_below h1 hb, h2.leaf (.below hb), own_below h3 hb, h4.leaf (.below hb)⟩
theorem FRead.nothing (w : World) : FRead w ⟨[], []⟩ (.slice none 0 0) (.slice none 0 0) := ⟨[], [], World.ownsRow_nil _ _ _ _, rfl, World.ownsRow_nil _ _ _ _, rfl⟩
theorem infoFl : (Tryz.prog.info? 25).map (·.size) = some 2 := by kernel_rfl
theorem wpList_store_fl {ops : Array Oper} {rest : List Oper} {o : Oper} {a : Act} {w : World} {Q : Exit → Act → World → Prop} (hgd : o.guard = none) (x y : Operand) (ho : o.op = .store 25 x y)
    (hd : o.dst = none) (g : Nat) (v0 v1 : Value) (u0 u1 : Value) (hx : a.eval x = .pointer (some ⟨g, 0, none⟩)) (hy : a.eval y = .agg #[v0, v1])
    (h0 : v0.oneCell' = true) (h1 : v1.oneCell' = true) (t : TypeId) (hg : w.heap[g]? = some (.cells #[u0, u1] t (0, 0)))
    (h : wpList Tryz.prog ops Q rest a (w.setRow g #[v0, v1])) : wpList Tryz.prog ops Q (o :: rest) a w :=
  wpList_store_rowTo hgd 25 x y ho hd g _ hx hy t _ hg infoFl rfl (by simp [h0, h1]) h
theorem wpList_load_fl {ops : Array Oper} {rest : List Oper} {o : Oper} {a : Act} {w : World} {Q : Exit → Act → World → Prop} (hgd : o.guard = none) (x : Operand) (ho : o.op = .load 25 x)
    (g : Nat) (u0 u1 : Value) (hx : a.eval x = .pointer (some ⟨g, 0, none⟩)) (t : TypeId) (fr : Nat × Nat) (hg : w.heap[g]? = some (.cells #[u0, u1] t fr))
    (h : wpList Tryz.prog ops Q rest (a.put o.dst (.agg #[u0, u1])) w) : wpList Tryz.prog ops Q (o :: rest) a w :=
  wpList_load_row hgd 25 x ho g hx t _ fr _ hg Tryz.underlying25 rfl infoFl h
theorem results_fl {fn : Func} {p : Tmp} (h : fn.results = #[.cell p 25]) (tmps : Array Value) (w : World) (g : Nat) (t : TypeId) (u0 u1 : Value) (fr : Nat × Nat)
    (hp : tmps.getD p undef = .pointer (some ⟨g, 0, none⟩)) (hg : w.heap[g]? = some (.cells #[u0, u1] t fr)) :
    (results fn tmps).run Tryz.prog w = .ok (.agg #[u0, u1]) w :=
  results_cell_row h tmps w g t _ fr _ hp hg Tryz.underlying25 rfl infoFl
theorem fileF_en (E : Nat) (s : S) (f : Fl) (h : s.goes = true) (h2 : s.sees 0 wEnum = true) : fileF E s f = fileF E (enumF E s).1 { f with E := f.E ++ [(enumF E s).2] } := by rw [fileF, dif_pos h, if_pos h2]
theorem fileF_ms (E : Nat) (s : S) (f : Fl) (h : s.goes = true) (h2 : ¬ s.sees 0 wEnum = true) : fileF E s f = fileF E (messageF E s).1 { f with M := f.M ++ [(messageF E s).2] } := by rw [fileF, dif_pos h, if_neg h2]
def FlRel (P E F : Nat) (w : World) (X : S × Fl) (K : Nat) (wr : World) : Prop := ∃ s f vM vE xs ys, PSt wr P E s ∧ FRow wr F f vM vE xs ys ∧ Kp F P w wr ∧ fileF E s f = X ∧ f.M.length + f.E.length + s.mu ≤ K
def FlPost (P E : Nat) (w : World) (X : S × Fl) (e : Ending) (w' : World) : Prop := ∃ vM vE, e = .returned (.agg #[vM, vE]) ∧ FRead w' X.2 vM vE ∧ PSt w' P E X.1 ∧ w.grownBy w' (some P)
end Go.Proofs.YtciiemomfniecaaGreatDoor
/-
  Lines are appended to what is printed: the frame, and the contract.
-/
namespace Go.Proofs.YtciiemomfniecaaGreatDoor
set_option maxRecDepth 100000

open Go.RowKit

/-- Printing lets all be but the bytes' own block, and new ones: what lies below B, and what was there and is no row of bytes. -/
structure Pr (B : Nat) (w w' : World) : Prop where
  os : w'.os = w.os
  tape : w'.tape = w.tape
  output : w'.output = w.output
  size : w.heap.size ≤ w'.heap.size
  block : ∀ k, k < B → w'.heap[k]? = w.heap[k]?
  typed : ∀ (k : Nat) (cs : Array Value) (t : TypeId) (fr : Nat × Nat), w.heap[k]? = some (Obj.cells cs t fr) → t ≠ 5 → w'.heap[k]? = w.heap[k]?
theorem Pr.refl (B : Nat) (w : World) : Pr B w w := ⟨rfl, rfl, rfl, Nat.le_refl _, fun _ _ => rfl, fun _ _ _ _ _ _ => rfl⟩
theorem Pr.trans {B : Nat} {a b c : World} (h : Pr B a b) (k : Pr B b c) : Pr B a c :=
  ⟨k.os.trans h.os, k.tape.trans h.tape, k.output.trans h.output, Nat.le_trans h.size k.size, fun i hi => (k.block i hi).trans (h.block i hi),
    fun i cs t fr hi ht => (k.typed i cs t fr ((h.typed i cs t fr hi ht).trans hi) ht).trans (h.typed i cs t fr hi ht)⟩
theorem Pr.far {B : Nat} {a w w' : World} (h : Pr B a w) (os : w'.os = w.os) (tape : w'.tape = w.tape) (output : w'.output = w.output) (size : w.heap.size ≤ w'.heap.size)
    (hk : ∀ k, k < a.heap.size → w'.heap[k]? = w.heap[k]?) (hB : B ≤ a.heap.size) : Pr B a w' :=
  ⟨os.trans h.os, tape.trans h.tape, output.trans h.output, Nat.le_trans h.size size, fun k hkB => (hk k (by omega)).trans (h.block k hkB),
    fun k cs t fr hi ht => (hk k (Array.getElem?_eq_some_iff.1 hi).1).trans (h.typed k cs t fr hi ht)⟩
theorem Pr.alloc {B : Nat} {a w : World} (h : Pr B a w) (hB : B ≤ a.heap.size) (o : Obj) : Pr B a (w.alloc o) :=
  h.far rfl rfl rfl (by simp) (fun k hk => Below.heap_alloc w o k (Nat.lt_of_lt_of_le hk h.size)) hB
theorem Pr.drewN {B : Nat} {a w : World} (h : Pr B a w) (n : Nat) : Pr B a (w.drewN n) := ⟨h.os, h.tape, h.output, h.size, h.block, h.typed⟩
theorem Pr.drew {B : Nat} {a w : World} (h : Pr B a w) : Pr B a w.drew := ⟨h.os, h.tape, h.output, h.size, h.block, h.typed⟩
theorem Pr.setCell {B : Nat} {a w : World} (h : Pr B a w) (hB : B ≤ a.heap.size) {p : Addr} (hp : a.heap.size ≤ p.block) (u : Value) : Pr B a (w.setCell p u) :=
  h.far rfl rfl rfl (by simp [World.setCell]) (fun k hk => Below.heap_setCell w p u k (by omega)) hB
theorem Pr.below {B : Nat} {w w' : World} (h : Below w.heap.size w w') (hB : B ≤ w.heap.size) : Pr B w w' :=
  ⟨h.os, h.tape, h.output, h.size, fun k hk => h.block k (by omega), fun k _ _ _ hi _ => h.block k (Array.getElem?_eq_some_iff.1 hi).1⟩
theorem Pr.grown {B : Nat} {w w' : World} {v : Value} {n : Nat} {xs : List Value} (hr : w.ownsRow B 5 1 v n xs) (hg : w.grownBy w' v.ownBlock) (hB : B ≤ w.heap.size) : Pr B w w' := by
  refine ⟨hg.os, hg.tape, hg.output, hg.size, fun k hk => hg.block k (by omega) (fun e => by have := (hr.lt k e.symm).1; omega), fun k cs t fr hi ht => hg.block k (Array.getElem?_eq_some_iff.1 hi).1 ?_⟩
  rcases hr.2 with ⟨rfl, _⟩ | ⟨g, cap, cur, rfl, h1, h2, _⟩
  · simp [Value.ownBlock]
  · simp only [Value.ownBlock, ne_eq, Option.some.injEq]
    rintro rfl
    rw [hi] at h2
    simp only [Option.some.injEq, Obj.cells.injEq] at h2
    exact ht h2.2.1
theorem Pr.leaf {B : Nat} {w w' : World} (h : Pr B w w') : Leaf w w' := fun k cs t hi hl => h.typed k cs t (0, 0) hi (by rintro rfl; exact absurd hl (by decide))
theorem Pr.own {B b : Nat} {w w' : World} {e : TypeId} {size : Nat} {v : Value} {n : Nat} {xs : List Value} (h : Pr B w w') (hr : w.ownsRow b e size v n xs) (he : e ≠ 5) : w'.ownsRow b e size v n xs := by
  rcases hr with ⟨hl, ⟨rfl, rfl⟩ | ⟨g, cap, cur, rfl, h1, h2, h3⟩⟩
  · exact ⟨hl, .inl ⟨rfl, rfl⟩⟩
  · exact ⟨hl, .inr ⟨g, cap, cur, rfl, h1, (h.typed g _ _ _ h2 he).trans h2, h3⟩⟩
/-- What has been printed so far. -/
def Out (B : Nat) (w : World) (v : Value) (L : List UInt8) : Prop := w.ownsRow B 5 1 v L.length (bs L)
theorem Out.below {B : Nat} {w w' : World} {v : Value} {L : List UInt8} (h : Out B w v L) (hb : Below w.heap.size w w') : Out B w' v L := own_below h hb
theorem Out.alloc {B : Nat} {w : World} {v : Value} {L : List UInt8} (h : Out B w v L) (o : Obj) : Out B (w.alloc o) v L := World.ownsRow.alloc h o
theorem Out.grow {B : Nat} {w : World} {v : Value} {L X : List UInt8} {n : Nat} {xs : List Value} (h : w.ownsRow B 5 1 v n xs) (hn : n = (L ++ X).length) (hx : xs = bs L ++ bs X) : Out B w v (L ++ X) := by
  subst hn hx
  rw [← bs_append] at h
  exact h
def OutPost (B : Nat) (R : List UInt8) (w : World) (e : Ending) (w' : World) : Prop := ∃ v, e = .returned v ∧ Out B w' v R ∧ Pr B w w'
/-- Parts of a line, as they lie there. -/
def PartsAt (w : World) (g : Nat) (ps : List (List UInt8)) : Prop := w.heap[g]? = some (.cells (strv ps).toArray 9 (0, 0))
theorem strCells_bs (l : List UInt8) : Lib.strCells (txt l) = bs l := by simp [Lib.strCells, txt, bs, BV]
theorem flat_take (ps : List (List UInt8)) (k : Nat) (p : List UInt8) (h : ps[k]? = some p) : (ps.take (k + 1)).flatten = (ps.take k).flatten ++ p := by
  rw [List.take_add_one, h]; simp
theorem flat_le (ps : List (List UInt8)) (k : Nat) : (ps.take k).flatten.length ≤ ps.flatten.length := by
  conv => rhs; rw [← List.take_append_drop k ps]
  rw [List.flatten_append, List.length_append]
  omega
def LineRel (B g : Nat) (L : List UInt8) (ps : List (List UInt8)) (w : World) (o i : Value) (wr : World) : Prop := ∃ k : Nat, i = .int .i64 k ∧ k ≤ ps.length ∧ Out B wr o (L ++ (ps.take k).flatten) ∧ Pr B w wr
theorem LineRel.mk {B g : Nat} {L : List UInt8} {ps : List (List UInt8)} {w wr : World} {o i : Value} (k : Nat) (h1 : i = .int .i64 k) (h2 : k ≤ ps.length) (h3 : Out B wr o (L ++ (ps.take k).flatten)) (h4 : Pr B w wr) : LineRel B g L ps w o i wr := ⟨k, h1, h2, h3, h4⟩

set_option maxHeartbeats 2000000 in
theorem line_any (B g n : Nat) (v : Value) (L : List UInt8) (ps : List (List UInt8)) (w : World) (hn : n = ps.length) (ho : Out B w v L) (hp : PartsAt w g ps) (hB : B ≤ w.heap.size) (hl : L.length + ps.flatten.length ≤ 1000000000000) (hps : ps.length ≤ 1000) :
    Calls Tryz.prog 106 #[v, .slice (some ⟨g, 0, none⟩) n n] w (OutPost B (L ++ lineB ps) w) := by
  obtain ⟨i0, hi, hz0, hz1, hz2⟩ := info_parts info_u8
  subst hn
  have HP := Lib.hid hp
  have HO := Lib.hid ho
  clear hp ho
  go_enter Tryz.func106, Tryz.ntmps106
  go_wp2
  go_loopw [0, 9] (fun o i wr => LineRel B g L ps w o i wr) (fun _ i _ => ps.length - (intOf i).toNat)
  case atStart => exact ⟨0, rfl, by omega, by simpa using HO.out, Pr.refl _ _⟩
  case round =>
    obtain ⟨k, rfl, hk, ho, hpr⟩ := hrel
    have HO5 := Lib.hid ho
    have HPR := Lib.hid hpr
    have hsz := hpr.size
    have hfl := flat_le ps k
    clear ho hpr
    by_cases h1 : k < ps.length
    · obtain ⟨p, hpk⟩ : ∃ p, ps[k]? = some p := ⟨_, List.getElem?_eq_getElem h1⟩
      have hcell : wr.cell? ⟨g, k, none⟩ = some (.string (txt p)) := by
        have := heap_cell ((HPR.out.typed g _ _ _ HP.out (by decide)).trans HP.out) k
        rw [this]
        simp [strv, hpk]
      have hfl2 := flat_le ps (k + 1)
      have hft := flat_take ps k p hpk
      have hts := txt_size p
      rw [hft, List.length_append] at hfl2
      have HFT := Lib.hid hft
      have hpl : p.length ≤ 1000000000000 := by omega
      have HPK := Lib.hid hpk
      have hle : (L ++ (ps.take k).flatten).length + (txt p).size ≤ 1000000000000 := by rw [hts, List.length_append]; omega
      clear hft hpk
      have HTS := Lib.hid hts
      clear hts
      go_wp2_with (refine Lib.wpList_append_own_string _ rfl _ _ _ _ rfl B 5 i0 Tryz.underlying106 Tryz.underlying9 hi hz0 hz1 hz2 _ _ _ rfl HO5.out (txt p) rfl (by unfold maxLen; omega) (by omega) (by omega) ?_; intro v8 w8 hown8 hg8 hnil8)
      refine ⟨LineRel.mk (k + 1) (by go_num) (by omega) ?_ (HPR.out.trans (Pr.grown HO5.out hg8 (by omega))), by simp [intOf]; omega⟩
      rw [HFT.out, ← List.append_assoc]
      exact Out.grow hown8 (by rw [HTS.out]; simp [Nat.add_assoc]) (by rw [strCells_bs])
    · obtain rfl : k = ps.length := by omega
      rw [List.take_of_length_le (Nat.le_refl _)] at HO5 hfl
      have hle : (L ++ ps.flatten).length + 1 ≤ 1000000000001 := by rw [List.length_append]; omega
      go_wp2_with (at_builtin; refine wpList_app1 rfl _ _ 106 rfl B 5 i0 (.int .u8 0) 1 Tryz.underlying106 hi hz0 hz1 hz2 rfl _ _ _ rfl (Out.alloc HO5.out _) wr.heap.size 1 _ rfl (World.cell?_alloc_at _ _ _ _ rfl) rfl (by unfold maxLen; omega) (by omega) (by simp; omega) ?_; intro v8 w8 hown8 hg8)
      go_ret
      refine ⟨_, rfl, ?_, (HPR.out.alloc (by omega) _).trans (Pr.grown (Out.alloc HO5.out _) hg8 (by simp; omega))⟩
      unfold lineB
      rw [← List.append_assoc]
      exact Out.grow hown8 (by simp [Nat.add_assoc]) rfl
end Go.Proofs.YtciiemomfniecaaGreatDoor
/-
  A field is printed: the contracts.
-/
namespace Go.Proofs.YtciiemomfniecaaGreatDoor
set_option maxRecDepth 100000

open Go.RowKit

set_option maxHeartbeats 1000000 in
theorem typeOf_any (d : Fd) (w : World) (hk0 : d.key.length ≤ 2000000) (ht0 : d.type.length ≤ 2000000) : Calls Tryz.prog 131 #[FdV d] w fun e w' => e = .returned (.string (txt (typeB d))) ∧ Below w.heap.size w w' := by
  have HX : Hid (FdV d = .agg #[.string (txt d.type), .string (txt d.key), .bool d.rep, .int .i64 d.one, .string (txt d.name), .int .i64 d.no, .int .i64 d.at_]) := Lib.hid rfl
  have hs1 : (txt d.key).size ≤ 2000000 := by rw [txt_size]; exact hk0
  have hs2 : (txt d.type).size ≤ 2000000 := by rw [txt_size]; exact ht0
  clear hk0 ht0
  rw [HX.out]
  by_cases hk : d.key = []
  · have hb : (!((txt d.key).toList).isEmpty) = false := by rw [Lib.toList_data, txt_list, hk]; rfl
    have hb2 : (txt d.key).toList = [] := by rw [Lib.toList_data, txt_list, hk]
    cases hr : d.rep
    · have HT : Hid (typeB d = d.type) := Lib.hid (by simp [typeB, hk, hr])
      clear hk
      go_enter Tryz.func131, Tryz.ntmps131
      go_wp2
      go_ret
      exact ⟨by rw [HT.out]; rfl, below_new _ _⟩
    · have HT : Hid (typeB d = [114, 101, 112, 101, 97, 116, 101, 100, 32] ++ d.type) := Lib.hid (by simp [typeB, hk, hr])
      clear hk
      go_enter Tryz.func131, Tryz.ntmps131
      go_wp2
      go_ret
      exact ⟨by rw [HT.out, ← txt_app]; rfl, below_new _ _⟩
  · have hb : (!((txt d.key).toList).isEmpty) = true := by rw [Lib.toList_data, txt_list]; cases h : d.key with | nil => exact absurd h hk | cons a b => rfl
    have hb2 : ((txt d.key).toList).isEmpty = false := by rw [Lib.toList_data, txt_list]; cases h : d.key with | nil => exact absurd h hk | cons a b => rfl
    have HT : Hid (typeB d = [109, 97, 112, 60] ++ d.key ++ [44, 32] ++ d.type ++ [62]) := Lib.hid (by simp [typeB, hk])
    clear hk
    go_enter Tryz.func131, Tryz.ntmps131
    go_wp2
    go_ret
    exact ⟨by rw [HT.out, ← txt_app, ← txt_app, ← txt_app, ← txt_app]; rfl, below_new _ _⟩
set_option maxHeartbeats 1000000 in
theorem inOne_any (name : ByteArray) (A1 A2 A3 : Option Addr) (n1 n2 n3 q1 q2 q3 : Nat) (at_ : Int) (d : Fd) (w : World) :
    Calls Tryz.prog 108 #[.agg #[.string name, .slice A1 n1 q1, .slice A2 n2 q2, .slice A3 n3 q3, .int .i64 at_], FdV d] w fun e w' => e = .returned (.bool (inOne n2 d)) ∧ Below w.heap.size w w' := by
  have HX : Hid (FdV d = .agg #[.string (txt d.type), .string (txt d.key), .bool d.rep, .int .i64 d.one, .string (txt d.name), .int .i64 d.no, .int .i64 d.at_]) := Lib.hid rfl
  rw [HX.out]
  by_cases h0 : 0 < d.one
  · have h1 : decide (0 < d.one) = true := by rw [decide_eq_true_eq]; omega
    have HT : Hid (inOne n2 d = decide (d.one ≤ n2)) := Lib.hid (by simp [inOne, h0])
    clear h0
    go_enter Tryz.func108, Tryz.ntmps108
    go_wp2
    go_ret
    exact ⟨by rw [HT.out]; first | rfl | simp, below_lit (below_new _ _) _⟩
  · have h1 : decide (0 < d.one) = false := by rw [decide_eq_false_iff_not]; omega
    have HT : Hid (inOne n2 d = false) := Lib.hid (by simp [inOne, h0])
    clear h0
    go_enter Tryz.func108, Tryz.ntmps108
    go_wp2
    go_ret
    exact ⟨by rw [HT.out]; rfl, below_lit (below_new _ _) _⟩
theorem box7_keep {w w' : World} {b : Nat} {d : Fd} (hk : w'.heap[b]? = w.heap[b]?) (h : w.heap[b]? = some (.cells #[.string (txt d.type), .string (txt d.key), .bool d.rep, .int .i64 d.one, .string (txt d.name), .int .i64 d.no, .int .i64 d.at_] 53 (0, 0)) ∧ w.cell? ⟨b, 0, none⟩ = some (.string (txt d.type)) ∧ w.cell? ⟨b, 1, none⟩ = some (.string (txt d.key)) ∧ w.cell? ⟨b, 2, none⟩ = some (.bool d.rep) ∧ w.cell? ⟨b, 3, none⟩ = some (.int .i64 d.one) ∧ w.cell? ⟨b, 4, none⟩ = some (.string (txt d.name)) ∧ w.cell? ⟨b, 5, none⟩ = some (.int .i64 d.no) ∧ w.cell? ⟨b, 6, none⟩ = some (.int .i64 d.at_)) : w'.heap[b]? = some (.cells #[.string (txt d.type), .string (txt d.key), .bool d.rep, .int .i64 d.one, .string (txt d.name), .int .i64 d.no, .int .i64 d.at_] 53 (0, 0)) ∧ w'.cell? ⟨b, 0, none⟩ = some (.string (txt d.type)) ∧ w'.cell? ⟨b, 1, none⟩ = some (.string (txt d.key)) ∧ w'.cell? ⟨b, 2, none⟩ = some (.bool d.rep) ∧ w'.cell? ⟨b, 3, none⟩ = some (.int .i64 d.one) ∧ w'.cell? ⟨b, 4, none⟩ = some (.string (txt d.name)) ∧ w'.cell? ⟨b, 5, none⟩ = some (.int .i64 d.no) ∧ w'.cell? ⟨b, 6, none⟩ = some (.int .i64 d.at_) := by
  have hb := hk.trans h.1
  refine ⟨hb, ?_, ?_, ?_, ?_, ?_, ?_, ?_⟩
  all_goals (rw [heap_cell hb]; rfl)
theorem box7_below {w w' : World} {b : Nat} {d : Fd} (hb : Below w.heap.size w w') (h : w.heap[b]? = some (.cells #[.string (txt d.type), .string (txt d.key), .bool d.rep, .int .i64 d.one, .string (txt d.name), .int .i64 d.no, .int .i64 d.at_] 53 (0, 0)) ∧ w.cell? ⟨b, 0, none⟩ = some (.string (txt d.type)) ∧ w.cell? ⟨b, 1, none⟩ = some (.string (txt d.key)) ∧ w.cell? ⟨b, 2, none⟩ = some (.bool d.rep) ∧ w.cell? ⟨b, 3, none⟩ = some (.int .i64 d.one) ∧ w.cell? ⟨b, 4, none⟩ = some (.string (txt d.name)) ∧ w.cell? ⟨b, 5, none⟩ = some (.int .i64 d.no) ∧ w.cell? ⟨b, 6, none⟩ = some (.int .i64 d.at_)) : w'.heap[b]? = some (.cells #[.string (txt d.type), .string (txt d.key), .bool d.rep, .int .i64 d.one, .string (txt d.name), .int .i64 d.no, .int .i64 d.at_] 53 (0, 0)) ∧ w'.cell? ⟨b, 0, none⟩ = some (.string (txt d.type)) ∧ w'.cell? ⟨b, 1, none⟩ = some (.string (txt d.key)) ∧ w'.cell? ⟨b, 2, none⟩ = some (.bool d.rep) ∧ w'.cell? ⟨b, 3, none⟩ = some (.int .i64 d.one) ∧ w'.cell? ⟨b, 4, none⟩ = some (.string (txt d.name)) ∧ w'.cell? ⟨b, 5, none⟩ = some (.int .i64 d.no) ∧ w'.cell? ⟨b, 6, none⟩ = some (.int .i64 d.at_) := box7_keep (hb.block b (Array.getElem?_eq_some_iff.1 h.1).1) h
theorem box7_pr {B : Nat} {w w' : World} {b : Nat} {d : Fd} (hb : Pr B w w') (h : w.heap[b]? = some (.cells #[.string (txt d.type), .string (txt d.key), .bool d.rep, .int .i64 d.one, .string (txt d.name), .int .i64 d.no, .int .i64 d.at_] 53 (0, 0)) ∧ w.cell? ⟨b, 0, none⟩ = some (.string (txt d.type)) ∧ w.cell? ⟨b, 1, none⟩ = some (.string (txt d.key)) ∧ w.cell? ⟨b, 2, none⟩ = some (.bool d.rep) ∧ w.cell? ⟨b, 3, none⟩ = some (.int .i64 d.one) ∧ w.cell? ⟨b, 4, none⟩ = some (.string (txt d.name)) ∧ w.cell? ⟨b, 5, none⟩ = some (.int .i64 d.no) ∧ w.cell? ⟨b, 6, none⟩ = some (.int .i64 d.at_)) : w'.heap[b]? = some (.cells #[.string (txt d.type), .string (txt d.key), .bool d.rep, .int .i64 d.one, .string (txt d.name), .int .i64 d.no, .int .i64 d.at_] 53 (0, 0)) ∧ w'.cell? ⟨b, 0, none⟩ = some (.string (txt d.type)) ∧ w'.cell? ⟨b, 1, none⟩ = some (.string (txt d.key)) ∧ w'.cell? ⟨b, 2, none⟩ = some (.bool d.rep) ∧ w'.cell? ⟨b, 3, none⟩ = some (.int .i64 d.one) ∧ w'.cell? ⟨b, 4, none⟩ = some (.string (txt d.name)) ∧ w'.cell? ⟨b, 5, none⟩ = some (.int .i64 d.no) ∧ w'.cell? ⟨b, 6, none⟩ = some (.int .i64 d.at_) := box7_keep (hb.typed b _ _ _ h.1 (by decide)) h
theorem box7_new (w : World) (d : Fd) : (w.alloc (.cells #[.string (txt d.type), .string (txt d.key), .bool d.rep, .int .i64 d.one, .string (txt d.name), .int .i64 d.no, .int .i64 d.at_] 53)).heap[w.heap.size]? = some (.cells #[.string (txt d.type), .string (txt d.key), .bool d.rep, .int .i64 d.one, .string (txt d.name), .int .i64 d.no, .int .i64 d.at_] 53 (0, 0)) ∧ (w.alloc (.cells #[.string (txt d.type), .string (txt d.key), .bool d.rep, .int .i64 d.one, .string (txt d.name), .int .i64 d.no, .int .i64 d.at_] 53)).cell? ⟨w.heap.size, 0, none⟩ = some (.string (txt d.type)) ∧ (w.alloc (.cells #[.string (txt d.type), .string (txt d.key), .bool d.rep, .int .i64 d.one, .string (txt d.name), .int .i64 d.no, .int .i64 d.at_] 53)).cell? ⟨w.heap.size, 1, none⟩ = some (.string (txt d.key)) ∧ (w.alloc (.cells #[.string (txt d.type), .string (txt d.key), .bool d.rep, .int .i64 d.one, .string (txt d.name), .int .i64 d.no, .int .i64 d.at_] 53)).cell? ⟨w.heap.size, 2, none⟩ = some (.bool d.rep) ∧ (w.alloc (.cells #[.string (txt d.type), .string (txt d.key), .bool d.rep, .int .i64 d.one, .string (txt d.name), .int .i64 d.no, .int .i64 d.at_] 53)).cell? ⟨w.heap.size, 3, none⟩ = some (.int .i64 d.one) ∧ (w.alloc (.cells #[.string (txt d.type), .string (txt d.key), .bool d.rep, .int .i64 d.one, .string (txt d.name), .int .i64 d.no, .int .i64 d.at_] 53)).cell? ⟨w.heap.size, 4, none⟩ = some (.string (txt d.name)) ∧ (w.alloc (.cells #[.string (txt d.type), .string (txt d.key), .bool d.rep, .int .i64 d.one, .string (txt d.name), .int .i64 d.no, .int .i64 d.at_] 53)).cell? ⟨w.heap.size, 5, none⟩ = some (.int .i64 d.no) ∧ (w.alloc (.cells #[.string (txt d.type), .string (txt d.key), .bool d.rep, .int .i64 d.one, .string (txt d.name), .int .i64 d.no, .int .i64 d.at_] 53)).cell? ⟨w.heap.size, 6, none⟩ = some (.int .i64 d.at_) := by
  have hb := heap_alloc_new w (.cells #[.string (txt d.type), .string (txt d.key), .bool d.rep, .int .i64 d.one, .string (txt d.name), .int .i64 d.no, .int .i64 d.at_] 53)
  refine ⟨hb, ?_, ?_, ?_, ?_, ?_, ?_, ?_⟩
  all_goals (rw [heap_cell hb]; rfl)
/-- A field whose texts and number are not too great. -/
structure FdOk (d : Fd) : Prop where
  key : d.key.length ≤ 2000000
  type : d.type.length ≤ 2000000
  name : d.name.length ≤ 2000000
  lo : -9223372036854775808 ≤ d.no
  hi : d.no ≤ 9223372036854775807
set_option maxHeartbeats 4000000 in
theorem pfld_any (B : Nat) (v : Value) (L ahead : List UInt8) (d : Fd) (w : World) (LV : Laid w) (ho : Out B w v L) (hB : B ≤ w.heap.size) (hd : FdOk d) (hl : L.length + (fieldB ahead d).length ≤ 1000000000000) :
    Calls Tryz.prog 109 #[v, .string (txt ahead), FdV d] w (OutPost B (L ++ fieldB ahead d) w) := by
  have HX : Hid (FdV d = .agg #[.string (txt d.type), .string (txt d.key), .bool d.rep, .int .i64 d.one, .string (txt d.name), .int .i64 d.no, .int .i64 d.at_]) := Lib.hid rfl
  have H1 := Lib.hid (fun w => typeOf_any d w hd.key hd.type)
  have H2 := Lib.hid (fun w L => digits_any d.no hd.lo hd.hi w L)
  have HR : Hid (fieldB ahead d = lineB [ahead, typeB d, [32], d.name, [32, 61, 32], digB d.no, [59]]) := Lib.hid rfl
  have hsz : L.length + [ahead, typeB d, [32], d.name, [32, 61, 32], digB d.no, [59]].flatten.length ≤ 1000000000000 := by
    rw [HR.out] at hl
    unfold lineB at hl
    rw [List.length_append] at hl
    omega
  have HSZ := Lib.hid hsz
  have HO := Lib.hid (ho.alloc (.cells #[.string (txt d.type), .string (txt d.key), .bool d.rep, .int .i64 d.one, .string (txt d.name), .int .i64 d.no, .int .i64 d.at_] 53))
  have HB := Lib.hid hB
  have LA := LV.on (below_new w (.cells #[.string (txt d.type), .string (txt d.key), .bool d.rep, .int .i64 d.one, .string (txt d.name), .int .i64 d.no, .int .i64 d.at_] 53))
  have LB : Laid ((w.alloc (.cells #[.string (txt d.type), .string (txt d.key), .bool d.rep, .int .i64 d.one, .string (txt d.name), .int .i64 d.no, .int .i64 d.at_] 53)).drew) := LA.on (Below.refl _ _).drew
  have h0 := box7_keep (w' := (w.alloc (.cells (FC d).toArray 53)).drew) rfl (box7_new w d)
  simp only [FC] at h0
  have HD := Lib.hid hd
  rw [HX.out]
  clear hd hl hsz ho hB LA LV
  generalize fieldB ahead d = R at *
  go_enter Tryz.func109, Tryz.ntmps109
  go_wp2_with fail
  go_region_held3 (fun w' => w'.heap[w.heap.size]? = some (.cells #[.string (txt d.type), .string (txt d.key), .bool d.rep, .int .i64 d.one, .string (txt d.name), .int .i64 d.no, .int .i64 d.at_] 53 (0, 0)) ∧ w'.cell? ⟨w.heap.size, 0, none⟩ = some (.string (txt d.type)) ∧ w'.cell? ⟨w.heap.size, 1, none⟩ = some (.string (txt d.key)) ∧ w'.cell? ⟨w.heap.size, 2, none⟩ = some (.bool d.rep) ∧ w'.cell? ⟨w.heap.size, 3, none⟩ = some (.int .i64 d.one) ∧ w'.cell? ⟨w.heap.size, 4, none⟩ = some (.string (txt d.name)) ∧ w'.cell? ⟨w.heap.size, 5, none⟩ = some (.int .i64 d.no) ∧ w'.cell? ⟨w.heap.size, 6, none⟩ = some (.int .i64 d.at_))
    (first | exact h0 | exact box7_below hb1 ‹_› | exact box7_below hb2 ‹_› | exact box7_below (below_new _ _) ‹_› | exact box7_pr hpr4 ‹_› | go_keep)
    ((first
      | (go_at_call 131; rw [← HX.out]; refine (H1.out _).mono ?_; rw [HX.out]; rintro e w1 ⟨rfl, hb1⟩)
      | (go_at_call 112; refine (H2.out _ (by first | exact LB | exact LB.on hb1)).mono ?_; rintro e w2 ⟨rfl, hb2⟩)
      | (go_at_call 106; refine (line_any B _ 7 v L [ahead, typeB d, [32], d.name, [32, 61, 32], digB d.no, [59]] _ rfl (by first | exact (((HO.out.below (Below.refl _ _).drew).below hb1).below hb2).alloc _ | exact (((HO.out.below (Below.refl _ _).drew).below hb2).below hb1).alloc _) (heap_alloc_new _ _) (by have h1 := hb1.size; have h2 := hb2.size; have h3 := HB.out; simp at h1 h2 ⊢; omega) HSZ.out (by simp)).mono ?_; rintro e w4 ⟨v4, rfl, ho4, hpr4⟩)))
  all_goals
    go_wp2
    go_ret
    have h1 := hb1.size
    have h2 := hb2.size
    have h3 := HB.out
    simp at h1 h2
    refine ⟨v4, rfl, by rw [HR.out]; exact ho4, ?_⟩
    first
      | exact ((((((Pr.refl B w).alloc HB.out _).drew.trans (Pr.below hb1 (by simp; omega))).trans (Pr.below hb2 (by omega))).trans ((Pr.refl B w2).alloc (by omega) _))).trans hpr4
      | exact ((((((Pr.refl B w).alloc HB.out _).drew.trans (Pr.below hb2 (by simp; omega))).trans (Pr.below hb1 (by omega))).trans ((Pr.refl B w1).alloc (by omega) _))).trans hpr4
end Go.Proofs.YtciiemomfniecaaGreatDoor
/-
  A oneof is printed: the contract.
-/
namespace Go.Proofs.YtciiemomfniecaaGreatDoor
set_option maxRecDepth 100000

open Go.RowKit

/-- What is laid lies below B. -/
def LaidB (B : Nat) (w : World) : Prop := ∃ w0, Laid w0 ∧ w0.heap.size ≤ B ∧ Below w0.heap.size w0 w
theorem LaidB.laid {B : Nat} {w : World} (h : LaidB B w) : Laid w := by
  obtain ⟨w0, h1, h2, h3⟩ := h
  exact h1.on h3
theorem LaidB.pr {B : Nat} {w w' : World} (h : LaidB B w) (k : Pr B w w') : LaidB B w' := by
  obtain ⟨w0, h1, h2, h3⟩ := h
  exact ⟨w0, h1, h2, h3.trans ⟨k.os, k.tape, k.output, k.size, fun i hi => k.block i (by omega)⟩⟩
theorem LaidB.start {w : World} (h : Laid w) : LaidB w.heap.size w := ⟨w, h, Nat.le_refl _, Below.refl _ _⟩
theorem fdv_length (l : List Fd) : (fdv l).length = l.length * 7 := by
  induction l with
  | nil => rfl
  | cons d l ih => simp only [fdv, List.flatMap_cons, List.length_append, List.length_cons] at ih ⊢; rw [ih]; simp [FC]; omega
theorem fdv_get : ∀ (l : List Fd) (k j : Nat) (d : Fd), l[k]? = some d → j < 7 → (fdv l)[k * 7 + j]? = (FC d)[j]?
  | [], k, j, r, h, _ => by simp at h
  | x :: l, 0, j, r, h, hj => by
    obtain rfl : x = r := by simpa using h
    rw [show fdv (x :: l) = FC x ++ fdv l by simp [fdv], Nat.zero_mul, Nat.zero_add, List.getElem?_append_left (by simp [FC]; omega)]
  | x :: l, k + 1, j, r, h, hj => by
    rw [show fdv (x :: l) = FC x ++ fdv l by simp [fdv], List.getElem?_append_right (by simp [FC]; omega)]
    rw [show (k + 1) * 7 + j - (FC x).length = k * 7 + j by simp [FC]; omega]
    exact fdv_get l k j r (by simpa using h) hj
/-- Field k, as it lies there. -/
theorem fd_at {w : World} {b : Nat} {v : Value} {l : List Fd} (h : w.ownsRow b 53 7 v l.length (fdv l)) {k : Nat} {d : Fd} (hk : l[k]? = some d) :
    ∃ g cap, v = .slice (some ⟨g, 0, none⟩) l.length cap ∧ g < w.heap.size ∧ w.cell? ⟨g, k * 7, none⟩ = some (.string (txt d.type)) ∧ w.cell? ⟨g, k * 7 + 1, none⟩ = some (.string (txt d.key)) ∧ w.cell? ⟨g, k * 7 + 2, none⟩ = some (.bool d.rep) ∧
      w.cell? ⟨g, k * 7 + 3, none⟩ = some (.int .i64 d.one) ∧ w.cell? ⟨g, k * 7 + 4, none⟩ = some (.string (txt d.name)) ∧ w.cell? ⟨g, k * 7 + 5, none⟩ = some (.int .i64 d.no) ∧ w.cell? ⟨g, k * 7 + 6, none⟩ = some (.int .i64 d.at_) := by
  have hlt : k < l.length := (List.getElem?_eq_some_iff.1 hk).1
  rcases h.2 with ⟨_, h0⟩ | ⟨g, cap, cur, rfl, _, hh, _⟩
  · omega
  · have hc := fun (j : Nat) (hj : j < 7) => h.cells (g := g) rfl (k * 7 + j)
    have hv := fun (j : Nat) (hj : j < 7) => fdv_get l k j d hk hj
    have key : ∀ (j : Nat) (hj : j < 7) (u : Value), (FC d)[j]? = some u → w.cell? ⟨g, k * 7 + j, none⟩ = some u := by
      intro j hj u hu
      have := hc j hj u (by rw [hv j hj, hu])
      simpa [Addr.add_lit] using this
    exact ⟨g, cap, rfl, (Array.getElem?_eq_some_iff.1 hh).1, key 0 (by omega) _ rfl, key 1 (by omega) _ rfl, key 2 (by omega) _ rfl, key 3 (by omega) _ rfl, key 4 (by omega) _ rfl, key 5 (by omega) _ rfl, key 6 (by omega) _ rfl⟩
theorem fieldsB_take (a : List UInt8) (l : List Fd) (k : Nat) (d : Fd) (h : l[k]? = some d) : fieldsB a (l.take (k + 1)) = fieldsB a (l.take k) ++ fieldB a d := by
  rw [List.take_add_one, h]; simp [fieldsB]
theorem fieldsB_le (a : List UInt8) (l : List Fd) (k : Nat) : (fieldsB a (l.take k)).length ≤ (fieldsB a l).length := by
  conv => rhs; rw [← List.take_append_drop k l]
  simp only [fieldsB, List.map_append, List.flatten_append, List.length_append]
  omega
def FsRel (B : Nat) (a : List UInt8) (L : List UInt8) (l : List Fd) (w : World) (o i : Value) (wr : World) : Prop := ∃ k : Nat, i = .int .i64 k ∧ k ≤ l.length ∧ Out B wr o (L ++ fieldsB a (l.take k)) ∧ Pr B w wr
theorem FsRel.mk {B : Nat} {a L : List UInt8} {l : List Fd} {w wr : World} {o i : Value} (k : Nat) (h1 : i = .int .i64 k) (h2 : k ≤ l.length) (h3 : Out B wr o (L ++ fieldsB a (l.take k))) (h4 : Pr B w wr) : FsRel B a L l w o i wr := ⟨k, h1, h2, h3, h4⟩
set_option maxHeartbeats 4000000 in
theorem pone_any (B : Nat) (v vm : Value) (L name : List UInt8) (l : List Fd) (w : World) (LV : LaidB B w) (ho : Out B w v L) (hm : w.ownsRow 0 53 7 vm l.length (fdv l)) (hB : B ≤ w.heap.size) (hd : ∀ d ∈ l, FdOk d) (hl : L.length + (oneB name l).length ≤ 1000000000000) (hll : l.length ≤ 1000000) :
    Calls Tryz.prog 110 #[v, .string (txt name), vm] w (OutPost B (L ++ oneB name l) w) := by
  by_cases h0 : l = []
  · subst h0
    have HO := Lib.hid ho
    obtain ⟨A, c, rfl, -⟩ := Sl.of_own hm
    clear ho hm hl
    go_enter Tryz.func110, Tryz.ntmps110
    go_wp2
    go_ret
    exact ⟨_, rfl, by simpa [oneB] using HO.out, Pr.refl _ _⟩
  · have HR : Hid (oneB name l = lineB [[32, 32], wOneof, [32], name, [32, 123]] ++ fieldsB [32, 32, 32, 32] l ++ lineB [[32, 32], [125]]) := Lib.hid (by rw [oneB, if_neg h0])
    have hlp : 0 < l.length := List.length_pos_iff.2 h0
    have hbi : ((l.length : Int) == 0) = false := by rw [beq_eq_false_iff_ne]; omega
    have hln : L.length + (lineB [[32, 32], wOneof, [32], name, [32, 123]]).length + (fieldsB [32, 32, 32, 32] l).length + (lineB [[32, 32], [125]]).length ≤ 1000000000000 := by
      rw [HR.out] at hl
      simp only [List.length_append] at hl
      omega
    have HLN := Lib.hid hln
    have hl1 : L.length + [[32, 32], wOneof, [32], name, [32, 123]].flatten.length ≤ 1000000000000 := by
      unfold lineB at hln
      simp only [List.length_append] at hln ⊢
      omega
    have HL1 := Lib.hid hl1
    have H1 := Lib.hid (line_any B w.heap.size 5 v L [[32, 32], wOneof, [32], name, [32, 123]] (w.alloc (.cells (strv [[32, 32], wOneof, [32], name, [32, 123]]).toArray 9)) rfl (ho.alloc _) (heap_alloc_new _ _) (by simp; omega) hl1 (by simp))
    have HM := Lib.hid hm
    have HD := Lib.hid hd
    obtain ⟨A, c, hvm, -⟩ := Sl.of_own hm
    subst hvm
    have HLV := Lib.hid LV
    clear hl hln hl1 hm hd LV h0
    go_enter Tryz.func110, Tryz.ntmps110
    go_wp2_with fail
    refine H1.out.mono ?_
    rintro e w1 ⟨v1, rfl, ho1, hpr1⟩
    have HO1 := Lib.hid ho1
    have HP1 := Lib.hid (((Pr.refl B w).alloc hB _).trans hpr1)
    have hs1 := hpr1.size
    simp at hs1
    clear ho1 hpr1
    go_wp2
    go_loopw [0, 19] (fun o i wr => FsRel B [32, 32, 32, 32] (L ++ lineB [[32, 32], wOneof, [32], name, [32, 123]]) l w o i wr) (fun _ i _ => l.length - (intOf i).toNat)
    case atStart => exact ⟨0, rfl, by omega, by simpa [fieldsB] using HO1.out, HP1.out⟩
    case round =>
      obtain ⟨k, rfl, hk, ho, hpr⟩ := hrel
      have HO5 := Lib.hid ho
      have HPR := Lib.hid hpr
      have hsz := hpr.size
      clear ho hpr
      by_cases h1 : k < l.length
      · obtain ⟨d, hdk⟩ : ∃ d, l[k]? = some d := ⟨_, List.getElem?_eq_getElem h1⟩
        obtain ⟨g, cap, hv, hg, c0, c1, c2, c3, c4, c5, c6⟩ := fd_at (HPR.out.own HM.out (by decide)) hdk
        injection hv with hA hn hc
        subst hA hc
        have hok := HD.out d (List.mem_of_getElem? hdk)
        have hft := fieldsB_take [32, 32, 32, 32] l k d hdk
        have hfl := fieldsB_le [32, 32, 32, 32] l (k + 1)
        rw [hft, List.length_append] at hfl
        have HFT := Lib.hid hft
        have hle : (L ++ lineB [[32, 32], wOneof, [32], name, [32, 123]] ++ fieldsB [32, 32, 32, 32] (l.take k)).length + (fieldB [32, 32, 32, 32] d).length ≤ 1000000000000 := by
          have := HLN.out
          simp only [List.length_append] at this ⊢
          omega
        have H2 := Lib.hid (pfld_any B _ _ [32, 32, 32, 32] d (wr.alloc (.cells #[.string (txt d.type), .string (txt d.key), .bool d.rep, .int .i64 d.one, .string (txt d.name), .int .i64 d.no, .int .i64 d.at_] 53)) ((HLV.out.pr HPR.out).laid.on (below_new _ _)) (HO5.out.alloc _) (by simp; omega) hok hle)
        clear hok hft hdk hle hfl hn
        go_wp2_with fail
        refine H2.out.mono ?_
        rintro e w8 ⟨v8, rfl, ho8, hpr8⟩
        have hs8 := hpr8.size
        go_wp2
        refine ⟨FsRel.mk (k + 1) (by go_num) (by omega) ?_ ((HPR.out.alloc hB _).trans hpr8), by simp [intOf]; omega⟩
        rw [HFT.out, ← List.append_assoc]
        exact ho8
      · obtain rfl : k = l.length := by omega
        rw [List.take_of_length_le (Nat.le_refl _)] at HO5
        have hle : (L ++ lineB [[32, 32], wOneof, [32], name, [32, 123]] ++ fieldsB [32, 32, 32, 32] l).length + ([[32, 32], [125]] : List (List UInt8)).flatten.length ≤ 1000000000000 := by
          have := HLN.out
          unfold lineB at this ⊢
          simp only [List.length_append] at this ⊢
          omega
        have H2 := Lib.hid (line_any B wr.heap.size 2 _ _ [[32, 32], [125]] (wr.alloc (.cells (strv [[32, 32], [125]]).toArray 9)) rfl (HO5.out.alloc _) (heap_alloc_new _ _) (by simp; omega) hle (by simp))
        clear hle
        go_wp2_with fail
        refine H2.out.mono ?_
        rintro e w8 ⟨v8, rfl, ho8, hpr8⟩
        go_wp2
        go_ret
        refine ⟨v8, rfl, ?_, (HPR.out.alloc hB _).trans hpr8⟩
        rw [HR.out, ← List.append_assoc, ← List.append_assoc]
        exact ho8
end Go.Proofs.YtciiemomfniecaaGreatDoor
