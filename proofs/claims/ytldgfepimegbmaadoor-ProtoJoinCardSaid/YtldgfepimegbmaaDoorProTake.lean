/-
  The parser takes tokens: the contracts of what takes one, and of a name with its number.
-/
import Derived.Test.YtldgfepimegbmaaDoorProSees
namespace Go.Proofs.YtldgfepimegbmaaDoor
set_option maxRecDepth 100000
open Go.RowKit

theorem map2_any (P E : Nat) (s : S) (w : World) (h : PSt w P E s) : Calls Tryd.prog 64 #[.pointer (some ⟨P, 0, none⟩)] w fun e w' => e = .returned (.bool s.map2) ∧ w = w' := by
  have HI := Lib.hid (sees_any P E 0 ⟨#[109, 97, 112]⟩ s w h)
  obtain ⟨A, c, hp, hl, hlt⟩ := h
  obtain ⟨l, st⟩ := s
  simp only at hp hl
  have c0 := heap_cell hp 0
  simp at c0
  cases hb : S.sees ⟨l, st⟩ 0 wMap with
  | false =>
    have HS : Hid (S.map2 ⟨l, st⟩ = false) := Lib.hid (by simp [S.map2, hb])
    have HL := Lib.hid hl
    have HB := Lib.hid (show S.sees ⟨l, st⟩ 0 (⟨#[109, 97, 112]⟩ : ByteArray).data.toList = false from hb)
    clear hl hb hp
    go_enter Tryd.func64, Tryd.ntmps64
    go_wp2_with fail
    refine HI.out.mono ?_
    rw [HB.out]
    rintro e w' ⟨rfl, rfl⟩
    go_wp2
    go_ret
    exact ⟨by rw [HS.out]; rfl, rfl⟩
  | true =>
    obtain ⟨h1, t, r, h2, h3⟩ := S.sees_l hb
    simp only at h1 h2
    subst h1 h2
    cases r with
    | nil =>
      have HS : Hid (S.map2 ⟨[t], false⟩ = false) := Lib.hid (by simp [S.map2])
      have HL := Lib.hid hl
      have HB := Lib.hid (show S.sees ⟨[t], false⟩ 0 (⟨#[109, 97, 112]⟩ : ByteArray).data.toList = true from hb)
      clear hl hb hp h3
      go_enter Tryd.func64, Tryd.ntmps64
      go_wp2_with fail
      refine HI.out.mono ?_
      rw [HB.out]
      rintro e w' ⟨rfl, rfl⟩
      go_wp2
      go_ret
      exact ⟨by rw [HS.out]; rfl, rfl⟩
    | cons u r =>
      obtain ⟨ad, rfl, p0, p1⟩ := hl.second
      have hm : S.map2 ⟨t :: u :: r, false⟩ = (((u.kind : Int) == 3) && ((txt u.text).toList == [60])) := by
        rw [S.map2, hb, Lib.toList_data, txt_list]
        have e : ((u.kind : Int) == 3) = (u.kind == 3) := by rw [Bool.eq_iff_iff]; simp; omega
        rw [e]
        simp
      have HL := Lib.hid hl
      have HB := Lib.hid (show S.sees ⟨t :: u :: r, false⟩ 0 (⟨#[109, 97, 112]⟩ : ByteArray).data.toList = true from hb)
      have HM := Lib.hid hm
      clear hl hb hp h3 hm
      have hn : decide ((1 : Int) < ((t :: u :: r).length : Int)) = true := by simp; omega
      have hn2 : decide (1 < (t :: u :: r).length) = true := by simp
      go_enter Tryd.func64, Tryd.ntmps64
      go_wp2_with fail
      refine HI.out.mono ?_
      rw [HB.out]
      rintro e w' ⟨rfl, rfl⟩
      cases hk : ((u.kind : Int) == 3)
      all_goals
        go_wp2
        go_ret
        exact ⟨by rw [HM.out, hk]; rfl, rfl⟩

theorem SlT.none_left {w : World} {A : Option Addr} {c : Nat} (hc : c ≤ maxLen) (hA : A = none → c = 0) : SlT w A c [] :=
  ⟨by simp [tv], Nat.zero_le _, hc, hA, by simp, by simp [tv]⟩
theorem SlT.tail {w : World} {ad : Addr} {c : Nat} {t : T} {l : List T} (h : SlT w (some ad) c (t :: l)) : SlT w (some (ad.add 4)) (c - 1) l := by
  cases l with
  | nil => exact SlT.none_left (by have := h.cap; omega) (by simp)
  | cons u l =>
    obtain ⟨ad', ha, h2⟩ := Sl.from_ (k := 1) h (by simp)
    obtain rfl := Option.some.inj ha
    simpa [SlT, tv_cons, TC] using h2
def TokE (t : T) : Value := TokV t.kind (txt t.text) t.num t.at_
theorem results_tok0 {fn : Func} {p : Tmp} (h : fn.results = #[.cell p 45]) (tmps : Array Value) (w : World) (g : Nat) (t : TypeId) (k n q : Int) (s : ByteArray) (fr : Nat × Nat)
    (hp : tmps.getD p undef = .pointer (some ⟨g, 0, none⟩)) (hg : w.heap[g]? = some (.cells #[.int .i64 k, .string s, .int .i64 n, .int .i64 q] t fr)) :
    (results fn tmps).run Tryd.prog w = .ok (.agg #[.int .i64 k, .string s, .int .i64 n, .int .i64 q]) w :=
  results_cell_row h tmps w g t _ fr _ hp hg Tryd.underlying45 rfl infoTok
theorem grown_set (w : World) (P j : Nat) (v : Value) : w.grownBy (w.setCell ⟨P, j, none⟩ v) (some P) := ⟨rfl, rfl, rfl, by simp [World.setCell], fun k _ hk => Below.heap_setCell w _ v k (by simpa using hk)⟩
theorem grown_lit {w w' : World} {row : Option Nat} (h : w.grownBy w' row) (o : Obj) : w.grownBy (w'.alloc o) row := h.trans (World.grownBy_alloc w' o row)
theorem PSt.lay {w w' : World} {P E : Nat} {s : S} {A : Option Addr} {c : Nat} (hg : w.grownBy w' (some P)) (hp : w'.heap[P]? = some (.cells #[.slice A s.l.length c, .int .i64 E, .bool s.st] 51 (0, 0))) (hl : SlT w A c s.l) (hlt : ∀ ad, A = some ad → ad.block < P) (hP : P < w.heap.size) : PSt w' P E s :=
  ⟨A, c, hp, hl.kept hg.size (fun ad ha => hg.block _ (by have := hlt ad ha; omega) (by have := hlt ad ha; simp; omega)), hlt⟩
/-- A cell behind a new block. -/
theorem up {w : World} {a : Addr} {v : Value} (h : w.cell? a = some v) (o : Obj) : (w.alloc o).cell? a = some v := (World.cell?_of_block (Below.heap_alloc w o a.block (World.block_lt_of_cell? w a h))).trans h
theorem take_no (P E : Nat) (s : S) (w : World) (h : PSt w P E s) : Calls Tryd.prog 59 #[.pointer (some ⟨P, 0, none⟩), .bool false] w fun e w' => e = .returned (TokE default) ∧ PSt w' P E (s.eat false) ∧ w.grownBy w' (some P) := by
  obtain ⟨A, c, hp, hl, hlt⟩ := h
  have hf := heap_free hp 2
  have c2 := heap_cell hp 2
  simp at c2
  have hPl := (Array.getElem?_eq_some_iff.1 hp).1
  have HL := Lib.hid hl
  have HP := Lib.hid hp
  clear hl hp
  go_enter Tryd.func59, Tryd.ntmps59
  go_wp2_with fail
  refine bodyPost_ret (results_tok0 rfl _ _ w.heap.size _ _ _ _ _ (0, 0) rfl (by have := heap_alloc_new (w.setCell ⟨P, 2, none⟩ (.bool true)) (.cells #[.int .i64 0, .string ⟨#[]⟩, .int .i64 0, .int .i64 0] 45); simpa [World.setCell] using this)) rfl ?_
  have hg : w.grownBy ((w.setCell ⟨P, 2, none⟩ (.bool true)).alloc (.cells #[.int .i64 0, .string ⟨#[]⟩, .int .i64 0, .int .i64 0] 45)) (some P) := grown_lit (grown_set w P 2 _) _
  exact ⟨rfl, PSt.lay hg ((Below.heap_alloc _ _ _ (by simpa [World.setCell] using hPl)).trans (heap_setCell_same HP.out _)) HL.out hlt hPl, hg⟩
theorem heap_first (w : World) (o o' : Obj) {g : Nat} (hg : g = w.heap.size) : ((w.alloc o).alloc o').heap[g]? = some o := by
  subst hg
  rw [Below.heap_alloc _ _ _ (by simp)]
  exact heap_alloc_new w o
theorem take_end {w : World} {P E : Nat} {t : T} {l : List T} {st : Bool} {A A' : Option Addr} {n c c' : Nat} {o o' : Obj} (hp : w.heap[P]? = some (.cells #[.slice A n c, .int .i64 E, .bool st] 51 (0, 0))) (hl : SlT w A' c' l) (hlt : ∀ ad, A' = some ad → ad.block < P) (hP : P < w.heap.size) :
    Ending.returned (.agg #[.int .i64 t.kind, .string (txt t.text), .int .i64 t.num, .int .i64 t.at_]) = .returned (TokE t) ∧ PSt (((w.setCell ⟨P, 0, none⟩ (.slice A' l.length c')).alloc o).alloc o') P E ⟨l, st⟩ ∧ w.grownBy (((w.setCell ⟨P, 0, none⟩ (.slice A' l.length c')).alloc o).alloc o') (some P) := by
  have hg : w.grownBy (((w.setCell ⟨P, 0, none⟩ (.slice A' l.length c')).alloc o).alloc o') (some P) := grown_lit (grown_lit (grown_set w P 0 _) _) _
  refine ⟨rfl, PSt.lay hg ?_ hl hlt hP, hg⟩
  rw [Below.heap_alloc _ _ _ (by simp [World.setCell]; omega), Below.heap_alloc _ _ _ (by simpa [World.setCell] using hP)]
  exact heap_setCell_same hp _
set_option maxHeartbeats 1000000 in
theorem take_yes (P E : Nat) (t : T) (l : List T) (st : Bool) (w : World) (h : PSt w P E ⟨t :: l, st⟩) : Calls Tryd.prog 59 #[.pointer (some ⟨P, 0, none⟩), .bool true] w fun e w' => e = .returned (TokE t) ∧ PSt w' P E ⟨l, st⟩ ∧ w.grownBy w' (some P) := by
  obtain ⟨A, c, hp, hl, hlt⟩ := h
  simp only at hp hl
  have hf := heap_free hp 0
  have c0 := heap_cell hp 0
  simp at c0
  obtain ⟨ad, rfl, p0, p1, p2, p3⟩ := hl.head
  have q0 := fun o => up p0 o
  have q1 := fun o => up p1 o
  have q2 := fun o => up p2 o
  have q3 := fun o => up p3 o
  have hPl := (Array.getElem?_eq_some_iff.1 hp).1
  have hle := hl.le
  have hcm := hl.cap
  have hadP := hlt ad rfl
  unfold maxLen at hcm
  simp only [List.length_cons] at hle
  have HL := Lib.hid hl
  have HP := Lib.hid hp
  clear hl hp
  go_enter Tryd.func59, Tryd.ntmps59
  go_wp2_with fail
  · have hl0 : l = [] := List.eq_nil_of_length_eq_zero (by omega)
    subst hl0
    refine bodyPost_ret (results_tok0 rfl _ _ w.heap.size _ _ _ _ _ (0, 0) rfl (heap_first _ _ _ (by simp [World.setCell]))) rfl ?_
    exact take_end (A' := some ad) (c' := 0) HP.out (SlT.none_left (by unfold maxLen; omega) (by simp)) hlt hPl
  · refine bodyPost_ret (results_tok0 rfl _ _ w.heap.size _ _ _ _ _ (0, 0) rfl (heap_first _ _ _ (by simp [World.setCell]))) rfl ?_
    refine take_end (A' := some ⟨ad.block, ad.off + 4, none⟩) (c' := c - 1) HP.out ?_ (by intro a ha; injection ha with ha; subst ha; exact hadP) hPl
    have := HL.out.tail
    simpa [Addr.add] using this
/-- One token is taken, if it fits. -/
theorem take_any (P E : Nat) (s : S) (b : Bool) (hb : b = true → s.l ≠ []) (w : World) (h : PSt w P E s) : Calls Tryd.prog 59 #[.pointer (some ⟨P, 0, none⟩), .bool b] w fun e w' => e = .returned (TokE (s.tok b)) ∧ PSt w' P E (s.eat b) ∧ w.grownBy w' (some P) := by
  obtain ⟨l, st⟩ := s
  cases b with
  | false => exact take_no P E _ w h
  | true =>
    cases l with
    | nil => exact absurd rfl (hb rfl)
    | cons t l => exact take_yes P E t l st w h
theorem fld_text (a c d : Int) (x : ByteArray) (w : World) : (Instr.field 45 (.agg #[.int .i64 a, .string x, .int .i64 c, .int .i64 d]) 1).run Tryd.prog w = .ok (.string x) w := by kernel_rfl
theorem fld_num (a c d : Int) (x : ByteArray) (w : World) : (Instr.field 45 (.agg #[.int .i64 a, .string x, .int .i64 c, .int .i64 d]) 2).run Tryd.prog w = .ok (.int .i64 c) w := by kernel_rfl
theorem name_any7 (P E : Nat) (s : S) (w : World) (h : PSt w P E s) : Calls Tryd.prog 47 #[.pointer (some ⟨P, 0, none⟩)] w fun e w' => e = .returned (.string (txt s.nameT)) ∧ PSt w' P E s.name ∧ w.grownBy w' (some P) := by
  have HI := Lib.hid (is_any P E 0 s w h)
  have HT := Lib.hid (take_any P E s (s.is 0) (fun hb => (S.is_ne hb).2) w h)
  have HX : Hid ((s.tok (s.is 0)).text = s.nameT) := Lib.hid (by unfold S.nameT S.tok; split <;> rfl)
  go_enter Tryd.func47, Tryd.ntmps47
  go_wp2_with fail
  refine HI.out.mono ?_
  rintro e w' ⟨rfl, rfl⟩
  go_wp2_with fail
  refine HT.out.mono ?_
  rintro e w' ⟨rfl, hp, hg⟩
  unfold TokE TokV
  have hf := fld_text
  go_wp2
  go_ret
  exact ⟨by rw [← HX.out]; rfl, hp, hg⟩
theorem num_any7 (P E : Nat) (s : S) (w : World) (h : PSt w P E s) : Calls Tryd.prog 60 #[.pointer (some ⟨P, 0, none⟩)] w fun e w' => e = .returned (.int .i64 s.numV) ∧ PSt w' P E s.num ∧ w.grownBy w' (some P) := by
  have HI := Lib.hid (is_any P E 1 s w h)
  have HT := Lib.hid (take_any P E s (s.is 1) (fun hb => (S.is_ne hb).2) w h)
  have HX : Hid ((s.tok (s.is 1)).num = s.numV) := Lib.hid (by unfold S.numV S.tok; split <;> rfl)
  go_enter Tryd.func60, Tryd.ntmps60
  go_wp2_with fail
  refine HI.out.mono ?_
  rintro e w' ⟨rfl, rfl⟩
  go_wp2_with fail
  refine HT.out.mono ?_
  rintro e w' ⟨rfl, hp, hg⟩
  unfold TokE TokV
  have hf := fld_num
  go_wp2
  go_ret
  exact ⟨by rw [← HX.out]; rfl, hp, hg⟩
theorem sign_any7 (P E : Nat) (s : S) (x : ByteArray) (w : World) (h : PSt w P E s) : Calls Tryd.prog 48 #[.pointer (some ⟨P, 0, none⟩), .string x] w fun e w' => e = .returned (.tuple #[]) ∧ PSt w' P E (s.sign x.data.toList) ∧ w.grownBy w' (some P) := by
  have HI := Lib.hid (sees_any P E 3 x s w h)
  have HT := Lib.hid (take_any P E s (s.sees 3 x.data.toList) (fun hb => (S.sees_ne hb).2) w h)
  go_enter Tryd.func48, Tryd.ntmps48
  go_wp2_with fail
  refine HI.out.mono ?_
  rintro e w' ⟨rfl, rfl⟩
  go_wp2_with fail
  refine HT.out.mono ?_
  rintro e w' ⟨rfl, hp, hg⟩
  go_wp2
  refine bodyPost_end (results_none rfl _ _ _) rfl ?_
  exact ⟨rfl, hp, hg⟩
theorem word_any7 (P E : Nat) (s : S) (x : ByteArray) (w : World) (h : PSt w P E s) : Calls Tryd.prog 46 #[.pointer (some ⟨P, 0, none⟩), .string x] w fun e w' => e = .returned (.tuple #[]) ∧ PSt w' P E (s.word x.data.toList) ∧ w.grownBy w' (some P) := by
  have HI := Lib.hid (sees_any P E 0 x s w h)
  have HT := Lib.hid (take_any P E s (s.sees 0 x.data.toList) (fun hb => (S.sees_ne hb).2) w h)
  go_enter Tryd.func46, Tryd.ntmps46
  go_wp2_with fail
  refine HI.out.mono ?_
  rintro e w' ⟨rfl, rfl⟩
  go_wp2_with fail
  refine HT.out.mono ?_
  rintro e w' ⟨rfl, hp, hg⟩
  go_wp2
  refine bodyPost_end (results_none rfl _ _ _) rfl ?_
  exact ⟨rfl, hp, hg⟩
/-- A name and its number. -/
theorem nbd_any7 (P E : Nat) (s : S) (w : World) (h : PSt w P E s) : Calls Tryd.prog 50 #[.pointer (some ⟨P, 0, none⟩)] w fun e w' => e = .returned (.tuple #[.string (txt s.nameT), .int .i64 s.nbdNo]) ∧ PSt w' P E s.nbd ∧ w.grownBy w' (some P) := by
  have H1 := Lib.hid (name_any7 P E s w h)
  have H2 := Lib.hid (fun w h => sign_any7 P E s.name ⟨#[61]⟩ w h)
  have H3 := Lib.hid (fun w h => num_any7 P E (s.name.sign [61]) w h)
  have H4 := Lib.hid (fun w h => sign_any7 P E (s.name.sign [61]).num ⟨#[59]⟩ w h)
  go_enter Tryd.func50, Tryd.ntmps50
  go_wp2_with fail
  refine H1.out.mono ?_
  rintro e w1 ⟨rfl, hp1, hg1⟩
  go_wp2_with fail
  refine (H2.out w1 hp1).mono ?_
  rintro e w2 ⟨rfl, hp2, hg2⟩
  go_wp2_with fail
  refine (H3.out w2 hp2).mono ?_
  rintro e w3 ⟨rfl, hp3, hg3⟩
  go_wp2_with fail
  refine (H4.out w3 hp3).mono ?_
  rintro e w4 ⟨rfl, hp4, hg4⟩
  go_wp2
  go_ret2
  exact ⟨rfl, hp4, ((hg1.trans hg2).trans hg3).trans hg4⟩
end Go.Proofs.YtldgfepimegbmaaDoor
