/-
  What reads an item, and a message: the contracts.
-/
import Derived.Test.YtciiemomfniecaaGreatDoorProRes
namespace Go.Proofs.YtciiemomfniecaaGreatDoor
set_option maxRecDepth 100000

open Go.RowKit

/-- The function that reads the item that stands next. -/
def itemFn (s : S) : Nat := if s.sees 0 wRepeated then 170 else if s.sees 0 wOneof then 171 else if s.sees 0 wReserved then 172 else if s.map2 then 174 else 175
theorem item_read (P E M : Nat) (s : S) (m : Ms) (w : World) (hp : PSt w P E s) (hm : MBox w M m) (hPM : P < M) (hst : s.st = false) (hn : m.wt + s.mu ≤ 100000) :
    Calls Tryz.prog (itemFn s) #[.pointer (some ⟨P, 0, none⟩), .pointer (some ⟨M, 0, none⟩)] w fun e w' => e = .returned (.tuple #[]) ∧ PSt w' P E (itemF E s m).1 ∧ MBox w' M (itemF E s m).2 ∧ Kp M P w w' := by
  have hF : m.F.length ≤ 100000 := by have := wt_le m; omega
  unfold itemFn itemF
  by_cases h1 : s.sees 0 wRepeated = true
  · rw [if_pos h1, if_pos h1]; exact repeated_any P E M s m w hp hm hPM hF
  · rw [if_neg h1, if_neg h1]
    by_cases h2 : s.sees 0 wOneof = true
    · rw [if_pos h2, if_pos h2]; exact oneof_any P E M s m w hp hm hPM hst hn
    · rw [if_neg h2, if_neg h2]
      by_cases h3 : s.sees 0 wReserved = true
      · rw [if_pos h3, if_pos h3]; exact reserved_any P E M s m w hp hm hPM hst hn
      · rw [if_neg h3, if_neg h3]
        by_cases h4 : s.map2 = true
        · rw [if_pos h4, if_pos h4]; exact pairs_any P E M s m w hp hm hPM hF
        · rw [if_neg h4, if_neg h4]; exact single_any P E M s m w hp hm hPM hF
theorem item_enters (s : S) : ∀ args w, (callFunc (itemFn s) args).run Tryz.prog w = .ok (.enter (itemFn s) args) w := by
  unfold itemFn
  split
  · exact enters_of Tryz.func170 (by kernel_rfl) rfl
  · split
    · exact enters_of Tryz.func171 (by kernel_rfl) rfl
    · split
      · exact enters_of Tryz.func172 (by kernel_rfl) rfl
      · split
        · exact enters_of Tryz.func174 (by kernel_rfl) rfl
        · exact enters_of Tryz.func175 (by kernel_rfl) rfl
def itemV (P k : Nat) : Value := .func (.func k) #[.pointer (some ⟨P, 0, none⟩)] #[]
theorem ret_item {P k k' : Nat} (h : k = k') : Ending.returned (.func (.func k) #[.pointer (some ⟨P, 0, none⟩)] #[]) = .returned (itemV P k') := by rw [h]; rfl
set_option maxHeartbeats 1000000 in
theorem item_any (P E : Nat) (s : S) (w : World) (h : PSt w P E s) : Calls Tryz.prog 146 #[.pointer (some ⟨P, 0, none⟩)] w fun e w' => e = .returned (itemV P (itemFn s)) ∧ w = w' := by
  have H1 := Lib.hid (sees_any P E 0 ⟨#[114, 101, 112, 101, 97, 116, 101, 100]⟩ s w h)
  have H2 := Lib.hid (sees_any P E 0 ⟨#[111, 110, 101, 111, 102]⟩ s w h)
  have H3 := Lib.hid (sees_any P E 0 ⟨#[114, 101, 115, 101, 114, 118, 101, 100]⟩ s w h)
  have H4 := Lib.hid (map2_any P E s w h)
  have hF : itemFn s = if s.sees 0 wRepeated then 170 else if s.sees 0 wOneof then 171 else if s.sees 0 wReserved then 172 else if s.map2 then 174 else 175 := rfl
  change Hid (Calls _ _ _ _ fun e w' => e = .returned (.bool (s.sees 0 wRepeated)) ∧ w = w') at H1
  change Hid (Calls _ _ _ _ fun e w' => e = .returned (.bool (s.sees 0 wOneof)) ∧ w = w') at H2
  change Hid (Calls _ _ _ _ fun e w' => e = .returned (.bool (s.sees 0 wReserved)) ∧ w = w') at H3
  generalize s.sees 0 wRepeated = b1 at *
  generalize s.sees 0 wOneof = b2 at *
  generalize s.sees 0 wReserved = b3 at *
  generalize s.map2 = b4 at *
  have HF := Lib.hid hF
  clear hF
  go_enter Tryz.func146, Tryz.ntmps146
  go_wp2_with fail
  refine H1.out.mono ?_
  rintro e w' ⟨rfl, rfl⟩
  cases b1
  · go_wp2_with fail
    refine H2.out.mono ?_
    rintro e w' ⟨rfl, rfl⟩
    cases b2
    · go_wp2_with fail
      refine H3.out.mono ?_
      rintro e w' ⟨rfl, rfl⟩
      cases b3
      · go_wp2_with fail
        refine H4.out.mono ?_
        rintro e w' ⟨rfl, rfl⟩
        cases b4
        all_goals
          go_wp2
          go_ret
          exact ⟨ret_item (by rw [HF.out]; rfl), rfl⟩
      · go_wp2
        go_ret
        exact ⟨ret_item (by rw [HF.out]; rfl), rfl⟩
    · go_wp2
      go_ret
      exact ⟨ret_item (by rw [HF.out]; rfl), rfl⟩
  · go_wp2
    go_ret
    exact ⟨ret_item (by rw [HF.out]; rfl), rfl⟩
end Go.Proofs.YtciiemomfniecaaGreatDoor
/-
  A message is read: the contract.
-/
namespace Go.Proofs.YtciiemomfniecaaGreatDoor
set_option maxRecDepth 100000

open Go.RowKit

/-- A message's slices, as they are read. -/
structure MRead (w : World) (m : Ms) (vF vO vR : Value) : Prop where
  f : w.ownsRow 0 53 7 vF m.F.length (fdv m.F)
  o : w.ownsRow 0 9 1 vO m.ones.length (strv m.ones)
  r : w.ownsRow 0 2 1 vR m.res.length (intv m.res)
theorem MRow.read {w : World} {M : Nat} {m : Ms} {vF vO vR : Value} (h : MRow w M m vF vO vR) : MRead w m vF vO vR := ⟨own_mono h.f (Nat.zero_le _), own_mono h.o (Nat.zero_le _), own_mono h.r (Nat.zero_le _)⟩
theorem own_one {w : World} {b : Nat} {e : TypeId} {size : Nat} {v : Value} {n : Nat} {xs : List Value} (h : w.ownsRow b e size v n xs) : v.oneCell' = true := by
  rcases h.2 with ⟨rfl, _⟩ | ⟨g, cap, cur, rfl, _⟩ <;> rfl
def MsV (m : Ms) (vF vO vR : Value) : Value := .agg #[.string (txt m.name), vF, vO, vR, .int .i64 m.at_]
theorem infoMs : (Tryz.prog.info? 51).map (·.size) = some 5 := by kernel_rfl
theorem wpList_store_ms {ops : Array Oper} {rest : List Oper} {o : Oper} {a : Act} {w : World} {Q : Exit → Act → World → Prop} (hgd : o.guard = none) (x y : Operand) (ho : o.op = .store 51 x y)
    (hd : o.dst = none) (g : Nat) (b0 : ByteArray) (v1 v2 v3 : Value) (b4 : Int) (u0 u1 u2 u3 u4 : Value) (hx : a.eval x = .pointer (some ⟨g, 0, none⟩)) (hy : a.eval y = .agg #[.string b0, v1, v2, v3, .int .i64 b4])
    (h1 : v1.oneCell' = true) (h2 : v2.oneCell' = true) (h3 : v3.oneCell' = true)
    (t : TypeId) (hg : w.heap[g]? = some (.cells #[u0, u1, u2, u3, u4] t (0, 0)))
    (h : wpList Tryz.prog ops Q rest a (w.setRow g #[.string b0, v1, v2, v3, .int .i64 b4])) : wpList Tryz.prog ops Q (o :: rest) a w :=
  wpList_store_rowTo hgd 51 x y ho hd g _ hx hy t _ hg infoMs rfl (by simp [h1, h2, h3]; simp [Value.oneCell']) h
theorem wpList_load_ms {ops : Array Oper} {rest : List Oper} {o : Oper} {a : Act} {w : World} {Q : Exit → Act → World → Prop} (hgd : o.guard = none) (x : Operand) (ho : o.op = .load 51 x)
    (g : Nat) (u0 u1 u2 u3 u4 : Value) (hx : a.eval x = .pointer (some ⟨g, 0, none⟩)) (t : TypeId) (fr : Nat × Nat) (hg : w.heap[g]? = some (.cells #[u0, u1, u2, u3, u4] t fr))
    (h : wpList Tryz.prog ops Q rest (a.put o.dst (.agg #[u0, u1, u2, u3, u4])) w) : wpList Tryz.prog ops Q (o :: rest) a w :=
  wpList_load_row hgd 51 x ho g hx t _ fr _ hg Tryz.underlying51 rfl infoMs h
theorem results_ms {fn : Func} {p : Tmp} (h : fn.results = #[.cell p 51]) (tmps : Array Value) (w : World) (g : Nat) (t : TypeId) (u0 u1 u2 u3 u4 : Value) (fr : Nat × Nat)
    (hp : tmps.getD p undef = .pointer (some ⟨g, 0, none⟩)) (hg : w.heap[g]? = some (.cells #[u0, u1, u2, u3, u4] t fr)) :
    (results fn tmps).run Tryz.prog w = .ok (.agg #[u0, u1, u2, u3, u4]) w :=
  results_cell_row h tmps w g t _ fr _ hp hg Tryz.underlying51 rfl infoMs
theorem itemsF_in (E : Nat) (s : S) (m : Ms) (h : s.inside = true) : itemsF E s m = itemsF E (itemF E s m).1 (itemF E s m).2 := by rw [itemsF, dif_pos h]
/-- Where the loop over a message's items is. -/
def ItRel (P E M : Nat) (w : World) (X : S × Ms) (K : Nat) (wr : World) : Prop := ∃ s m, PSt wr P E s ∧ MBox wr M m ∧ Kp M P w wr ∧ itemsF E s m = X ∧ m.wt + s.mu ≤ K
/-- What is told of a message that is read. -/
def MsPost (P E : Nat) (w : World) (X : S × Ms) (e : Ending) (w' : World) : Prop := ∃ vF vO vR, e = .returned (MsV X.2 vF vO vR) ∧ MRead w' X.2 vF vO vR ∧ PSt w' P E X.1 ∧ w.grownBy w' (some P)
theorem MRead.kept {w w' : World} {m : Ms} {vF vO vR : Value} (h : MRead w m vF vO vR) {g : Nat} {o : Obj} (hg : w.grownBy w' (some g)) (ho : w.heap[g]? = some o) (ht : ∀ cs t fr, o = .cells cs t fr → t ≠ 53 ∧ t ≠ 9 ∧ t ≠ 2) : MRead w' m vF vO vR := by
  have key : ∀ {e : TypeId} {size : Nat} {v : Value} {n : Nat} {xs : List Value}, w.ownsRow 0 e size v n xs → (e = 53 ∨ e = 9 ∨ e = 2) → w'.ownsRow 0 e size v n xs := by
    intro e size v n xs hr he
    refine hr.kept hg ?_
    rcases hr.2 with ⟨rfl, _⟩ | ⟨g', cap, cur, rfl, _, h2, _⟩
    · exact .inl rfl
    · right
      simp only [Value.ownBlock, ne_eq, Option.some.injEq]
      rintro rfl
      rw [h2] at ho
      obtain rfl := Option.some.inj ho
      have := ht _ _ _ rfl
      rcases he with rfl | rfl | rfl
      · exact this.1 rfl
      · exact this.2.1 rfl
      · exact this.2.2 rfl
  exact ⟨key h.f (.inl rfl), key h.o (.inr (.inl rfl)), key h.r (.inr (.inr rfl))⟩
theorem msgM_wt (E : Nat) (s : S) : (msgM E s).wt = 0 := rfl
theorem new_box (w : World) (name : ByteArray) (m : Ms) (hn : name = txt m.name) (h0 : m.F = [] ∧ m.ones = [] ∧ m.res = []) {M : Nat} (hb : w.heap[M]? = some (.cells #[.string name, .slice none 0 0, .slice none 0 0, .slice none 0 0, .int .i64 m.at_] 51 (0, 0))) : MBox w M m := by
  obtain ⟨h1, h2, h3⟩ := h0
  refine ⟨.slice none 0 0, .slice none 0 0, .slice none 0 0, by rw [← hn]; exact hb, ?_, ?_, ?_⟩
  · rw [h1]; exact World.ownsRow_nil _ _ _ _
  · rw [h2]; exact World.ownsRow_nil _ _ _ _
  · rw [h3]; exact World.ownsRow_nil _ _ _ _

set_option maxHeartbeats 2000000 in
theorem message_any (P E : Nat) (s : S) (w : World) (hp : PSt w P E s) (hst : s.st = false) (hn : s.mu ≤ 50000) :
    Calls Tryz.prog 117 #[.pointer (some ⟨P, 0, none⟩)] w (MsPost P E w (messageF E s)) := by
  have hPl := hp.lt
  have hmu1 := msgS_mu s hst
  have H0 := Lib.hid (fun w h => place_any P E s w h)
  have H1 := Lib.hid (fun w h => word_any7 P E s ⟨#[109, 101, 115, 115, 97, 103, 101]⟩ w h)
  have H2 := Lib.hid (fun w h => name_any7 P E (s.word wMessage) w h)
  have H3 := Lib.hid (fun w h => sign_any7 P E (s.word wMessage).name ⟨#[123]⟩ w h)
  have HS : Hid (messageF E s = ((itemsF E (msgS s) (msgM E s)).1.sign [125], (itemsF E (msgS s) (msgM E s)).2)) := Lib.hid rfl
  have HMM : Hid (msgM E s = ⟨(s.word wMessage).nameT, [], [], [], s.place E⟩) := Lib.hid rfl
  have HMU := Lib.hid hmu1
  have HP := Lib.hid hp
  clear hp hst hmu1
  go_enter Tryz.func117, Tryz.ntmps117
  go_wp2_with fail
  refine (H0.out _ (HP.out.alloc _)).mono ?_
  rintro e w0 ⟨rfl, rfl⟩
  go_wp2_with fail
  refine (H1.out _ ((HP.out.alloc _).alloc _)).mono ?_
  rintro e w1 ⟨rfl, hp1, hg1⟩
  have hs1 := hg1.size
  simp at hs1
  have HK1 := Lib.hid ((((Kp.refl w.heap.size P w).alloc (Nat.le_refl _) _).alloc (by simp) _).taken hg1 (by simp; omega))
  have HR1 := Lib.hid (stays (heap_first w _ _ rfl) hg1 hPl)
  have HB1 := Lib.hid (stays (heap_second w _ _) hg1 (by omega))
  clear hg1
  go_wp2_with fail
  refine (H2.out w1 hp1).mono ?_
  rintro e w2 ⟨rfl, hp2, hg2⟩
  have hs2 := hg2.size
  have HK2 := Lib.hid (HK1.out.taken hg2 (by omega))
  have HR2 := Lib.hid (stays HR1.out hg2 hPl)
  have HB2 := Lib.hid (stays HB1.out hg2 (by omega))
  have c0 := heap_cell HB2.out 0
  have f0 := heap_free HB2.out 0
  simp at c0
  clear hg2 HK1 HR1 HB1
  go_wp2_with fail
  refine (H3.out _ (hp2.setCell (by simp; omega) _)).mono ?_
  rintro e w3 ⟨rfl, hp3, hg3⟩
  have hs3 := hg3.size
  simp [World.setCell] at hs3
  have HK3 := Lib.hid ((HK2.out.setCell (by simp) _).taken hg3 (by simp [World.setCell]; omega))
  have HR3 := Lib.hid (stays ((Below.heap_setCell w2 _ _ _ (by simp)).trans HR2.out) hg3 hPl)
  have hb3 := stays (heap_setCell_same HB2.out _) hg3 (by omega)
  simp at hb3
  have HM3 : Hid (MBox w3 (w.heap.size + 1) (msgM E s)) := Lib.hid (new_box w3 _ _ (by rw [HMM.out]) ⟨rfl, rfl, rfl⟩ (by rw [hb3, HMM.out]))
  have HP3 : Hid (PSt w3 P E (msgS s)) := Lib.hid hp3
  clear hg3 HK2 HR2 HB2 c0 f0 hb3 hp3
  generalize hX : itemsF E (msgS s) (msgM E s) = X at *
  have HX := Lib.hid hX
  clear hX
  go_wp2
  go_loopw [4] (fun _ wr => ItRel P E (w.heap.size + 1) w3 X 50000 wr) (fun _ wr => muW wr P)
  case atStart => exact ⟨msgS s, msgM E s, HP3.out, HM3.out, Kp.refl _ _ _, HX.out, by have := HMU.out; have := msgM_wt E s; omega⟩
  case round =>
    obtain ⟨s5, m5, hp5, hm5, hk5, hx5, hw5⟩ := hrel
    have HX5 := Lib.hid hx5
    have HM5 := Lib.hid hm5
    have HK5 := Lib.hid hk5
    have HP5 := Lib.hid hp5
    have hmu5 := hp5.mu
    have hI := inside_any P E s5 _ hp5
    clear hx5 hm5 hk5 hp5
    cases hin : s5.inside
    · rw [hin] at hI
      have HI := Lib.hid hI
      have HE : Hid (X = (s5, m5)) := Lib.hid (by rw [← HX5.out, itemsF, dif_neg (by rw [hin]; decide)])
      clear hI hin
      have HMU5 := Lib.hid hmu5
      clear hmu5
      go_wp2_with fail
      refine HI.out.mono ?_
      rintro e w6 ⟨rfl, rfl⟩
      go_wp2_with fail
      refine (sign_any7 P E s5 ⟨#[125]⟩ _ HP5.out).mono ?_
      rintro e w7 ⟨rfl, hp7, hg7⟩
      have hsr := HK5.out.size
      obtain ⟨vF, vO, vR, hr7⟩ := (HM5.out.taken hg7 (by omega)).open_
      have hk7 := HK5.out.taken hg7 (by omega)
      have hR7 := (hk7.block w.heap.size (by omega) (by omega)).trans HR3.out
      have HR7 := Lib.hid hr7
      have HB7 := Lib.hid hr7.box
      have HK7 : Hid (Kp w.heap.size P w w7) := Lib.hid (HK3.out.trans (hk7.mono (by omega)))
      have HRR := Lib.hid hR7
      have g1 := own_one hr7.f
      have g2 := own_one hr7.o
      have g3 := own_one hr7.r
      clear hr7 hk7 hR7
      go_wp2_with (refine wpList_load_ms rfl _ rfl (w.heap.size + 1) _ _ _ _ _ rfl _ _ HB7.out ?_; refine wpList_store_ms rfl _ _ rfl rfl w.heap.size _ _ _ _ _ _ _ _ _ _ rfl rfl g1 g2 g3 _ HRR.out ?_)
      refine bodyPost_ret (results_ms rfl _ _ w.heap.size _ _ _ _ _ _ (0, 0) rfl (setRow_heap _ _ _ _ _ _ HRR.out)) rfl ?_
      rw [HS.out, HE.out]
      have hgr : w7.grownBy (w7.setRow w.heap.size #[.string (txt m5.name), vF, vO, vR, .int .i64 m5.at_]) (some w.heap.size) := ⟨rfl, rfl, rfl, by simp, fun k _ hk => setRow_other _ _ _ _ (by simpa using hk)⟩
      exact ⟨vF, vO, vR, rfl, HR7.out.read.kept hgr HRR.out (by intro cs t fr h; cases h; decide), hp7.setRow (by omega) _, (HK7.out.setRow (Nat.le_refl _) _).out⟩
    · rw [hin] at hI
      have HI := Lib.hid hI
      have hst5 := S.inside_st hin
      have HN : Hid (itemsF E (itemF E s5 m5).1 (itemF E s5 m5).2 = X) := Lib.hid (by rw [← HX5.out, itemsF_in E s5 m5 hin])
      have hwt := itemF_wt E s5 m5 hst5
      have HIT := Lib.hid (item_any P E s5 wr HP5.out)
      have HRD := Lib.hid (item_read P E (w.heap.size + 1) s5 m5 wr HP5.out HM5.out (by omega) hst5 (by omega))
      have hen := item_enters s5
      have HWT := Lib.hid hwt
      clear hI hin hst5 hwt
      have HMU5 := Lib.hid hmu5
      clear hmu5
      go_wp2_with fail
      refine HI.out.mono ?_
      rintro e w6 ⟨rfl, rfl⟩
      go_wp2_with fail
      refine HIT.out.mono ?_
      rintro e w6 ⟨rfl, rfl⟩
      unfold itemV
      go_wp2_with fail
      refine HRD.out.mono ?_
      rintro e w7 ⟨rfl, hp7, hm7, hk7⟩
      go_wp2
      refine ⟨⟨_, _, hp7, hm7, HK5.out.trans hk7, HN.out, by have := HWT.out; omega⟩, ?_⟩
      rw [hp7.mu, HMU5.out]
      have := HWT.out
      omega
end Go.Proofs.YtciiemomfniecaaGreatDoor
