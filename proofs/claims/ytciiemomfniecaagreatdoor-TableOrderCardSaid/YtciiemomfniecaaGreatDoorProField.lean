/-
  The parser takes tokens: the contracts of what takes one, and of a name with its number.
-/
import Derived.Test.YtciiemomfniecaaGreatDoorProSees
namespace Go.Proofs.YtciiemomfniecaaGreatDoor
set_option maxRecDepth 100000

open Go.RowKit

theorem map2_any (P E : Nat) (s : S) (w : World) (h : PSt w P E s) : Calls Tryz.prog 173 #[.pointer (some ⟨P, 0, none⟩)] w fun e w' => e = .returned (.bool s.map2) ∧ w = w' := by
  have HI := Lib.hid (sees_any P E 0 ⟨#[109, 97, 112]⟩ s w h)
  obtain ⟨A, c, hp, hl, hlt⟩ := h
  obtain ⟨l, st⟩ := s
  simp only at hp hl
  have c0 := heap_cell hp 0
  simp at c0
  cases hb : S.sees ⟨l, st⟩ 0 wMap with
  | false =>
    have HS : Hid (S.map2 ⟨l, st⟩ = false) := Lib.hid (by simp [S.map2, hb])
    have HL := Lib.hid hl
    have HB := Lib.hid (show S.sees ⟨l, st⟩ 0 (⟨#[109, 97, 112]⟩ : ByteArray).data.toList = false from hb)
    clear hl hb hp
    go_enter Tryz.func173, Tryz.ntmps173
    go_wp2_with fail
    refine HI.out.mono ?_
    rw [HB.out]
    rintro e w' ⟨rfl, rfl⟩
    go_wp2
    go_ret
    exact ⟨by rw [HS.out]; rfl, rfl⟩
  | true =>
    obtain ⟨h1, t, r, h2, h3⟩ := S.sees_l hb
    simp only at h1 h2
    subst h1 h2
    cases r with
    | nil =>
      have HS : Hid (S.map2 ⟨[t], false⟩ = false) := Lib.hid (by simp [S.map2])
      have HL := Lib.hid hl
      have HB := Lib.hid (show S.sees ⟨[t], false⟩ 0 (⟨#[109, 97, 112]⟩ : ByteArray).data.toList = true from hb)
      clear hl hb hp h3
      go_enter Tryz.func173, Tryz.ntmps173
      go_wp2_with fail
      refine HI.out.mono ?_
      rw [HB.out]
      rintro e w' ⟨rfl, rfl⟩
      go_wp2
      go_ret
      exact ⟨by rw [HS.out]; rfl, rfl⟩
    | cons u r =>
      obtain ⟨ad, rfl, p0, p1⟩ := hl.second
      have hm : S.map2 ⟨t :: u :: r, false⟩ = (((u.kind : Int) == 3) && ((txt u.text).toList == [60])) := by
        rw [S.map2, hb, Lib.toList_data, txt_list]
        have e : ((u.kind : Int) == 3) = (u.kind == 3) := by rw [Bool.eq_iff_iff]; simp; omega
        rw [e]
        simp
      have HL := Lib.hid hl
      have HB := Lib.hid (show S.sees ⟨t :: u :: r, false⟩ 0 (⟨#[109, 97, 112]⟩ : ByteArray).data.toList = true from hb)
      have HM := Lib.hid hm
      clear hl hb hp h3 hm
      have hn : decide ((1 : Int) < ((t :: u :: r).length : Int)) = true := by simp; omega
      have hn2 : decide (1 < (t :: u :: r).length) = true := by simp
      go_enter Tryz.func173, Tryz.ntmps173
      go_wp2_with fail
      refine HI.out.mono ?_
      rw [HB.out]
      rintro e w' ⟨rfl, rfl⟩
      cases hk : ((u.kind : Int) == 3)
      all_goals
        go_wp2
        go_ret
        exact ⟨by rw [HM.out, hk]; rfl, rfl⟩

theorem SlT.none_left {w : World} {A : Option Addr} {c : Nat} (hc : c ≤ maxLen) (hA : A = none → c = 0) : SlT w A c [] :=
  ⟨by simp [tv], Nat.zero_le _, hc, hA, by simp, by simp [tv]⟩
theorem SlT.tail {w : World} {ad : Addr} {c : Nat} {t : T} {l : List T} (h : SlT w (some ad) c (t :: l)) : SlT w (some (ad.add 4)) (c - 1) l := by
  cases l with
  | nil => exact SlT.none_left (by have := h.cap; omega) (by simp)
  | cons u l =>
    obtain ⟨ad', ha, h2⟩ := Sl.from_ (k := 1) h (by simp)
    obtain rfl := Option.some.inj ha
    simpa [SlT, tv_cons, TC] using h2
def TokE (t : T) : Value := TokV t.kind (txt t.text) t.num t.at_
theorem results_tok0 {fn : Func} {p : Tmp} (h : fn.results = #[.cell p 155]) (tmps : Array Value) (w : World) (g : Nat) (t : TypeId) (k n q : Int) (s : ByteArray) (fr : Nat × Nat)
    (hp : tmps.getD p undef = .pointer (some ⟨g, 0, none⟩)) (hg : w.heap[g]? = some (.cells #[.int .i64 k, .string s, .int .i64 n, .int .i64 q] t fr)) :
    (results fn tmps).run Tryz.prog w = .ok (.agg #[.int .i64 k, .string s, .int .i64 n, .int .i64 q]) w :=
  results_cell_row h tmps w g t _ fr _ hp hg Tryz.underlying155 rfl infoTok
theorem grown_set (w : World) (P j : Nat) (v : Value) : w.grownBy (w.setCell ⟨P, j, none⟩ v) (some P) := ⟨rfl, rfl, rfl, by simp [World.setCell], fun k _ hk => Below.heap_setCell w _ v k (by simpa using hk)⟩
theorem grown_lit {w w' : World} {row : Option Nat} (h : w.grownBy w' row) (o : Obj) : w.grownBy (w'.alloc o) row := h.trans (World.grownBy_alloc w' o row)
theorem PSt.lay {w w' : World} {P E : Nat} {s : S} {A : Option Addr} {c : Nat} (hg : w.grownBy w' (some P)) (hp : w'.heap[P]? = some (.cells #[.slice A s.l.length c, .int .i64 E, .bool s.st] 116 (0, 0))) (hl : SlT w A c s.l) (hlt : ∀ ad, A = some ad → ad.block < P) (hP : P < w.heap.size) : PSt w' P E s :=
  ⟨A, c, hp, hl.kept hg.size (fun ad ha => hg.block _ (by have := hlt ad ha; omega) (by have := hlt ad ha; simp; omega)), hlt⟩
/-- A cell behind a new block. -/
theorem up {w : World} {a : Addr} {v : Value} (h : w.cell? a = some v) (o : Obj) : (w.alloc o).cell? a = some v := (World.cell?_of_block (Below.heap_alloc w o a.block (World.block_lt_of_cell? w a h))).trans h
theorem take_no (P E : Nat) (s : S) (w : World) (h : PSt w P E s) : Calls Tryz.prog 168 #[.pointer (some ⟨P, 0, none⟩), .bool false] w fun e w' => e = .returned (TokE default) ∧ PSt w' P E (s.eat false) ∧ w.grownBy w' (some P) := by
  obtain ⟨A, c, hp, hl, hlt⟩ := h
  have hf := heap_free hp 2
  have c2 := heap_cell hp 2
  simp at c2
  have hPl := (Array.getElem?_eq_some_iff.1 hp).1
  have HL := Lib.hid hl
  have HP := Lib.hid hp
  clear hl hp
  go_enter Tryz.func168, Tryz.ntmps168
  go_wp2_with fail
  refine bodyPost_ret (results_tok0 rfl _ _ w.heap.size _ _ _ _ _ (0, 0) rfl (by have := heap_alloc_new (w.setCell ⟨P, 2, none⟩ (.bool true)) (.cells #[.int .i64 0, .string ⟨#[]⟩, .int .i64 0, .int .i64 0] 155); simpa [World.setCell] using this)) rfl ?_
  have hg : w.grownBy ((w.setCell ⟨P, 2, none⟩ (.bool true)).alloc (.cells #[.int .i64 0, .string ⟨#[]⟩, .int .i64 0, .int .i64 0] 155)) (some P) := grown_lit (grown_set w P 2 _) _
  exact ⟨rfl, PSt.lay hg ((Below.heap_alloc _ _ _ (by simpa [World.setCell] using hPl)).trans (heap_setCell_same HP.out _)) HL.out hlt hPl, hg⟩
theorem heap_first (w : World) (o o' : Obj) {g : Nat} (hg : g = w.heap.size) : ((w.alloc o).alloc o').heap[g]? = some o := by
  subst hg
  rw [Below.heap_alloc _ _ _ (by simp)]
  exact heap_alloc_new w o
theorem take_end {w : World} {P E : Nat} {t : T} {l : List T} {st : Bool} {A A' : Option Addr} {n c c' : Nat} {o o' : Obj} (hp : w.heap[P]? = some (.cells #[.slice A n c, .int .i64 E, .bool st] 116 (0, 0))) (hl : SlT w A' c' l) (hlt : ∀ ad, A' = some ad → ad.block < P) (hP : P < w.heap.size) :
    Ending.returned (.agg #[.int .i64 t.kind, .string (txt t.text), .int .i64 t.num, .int .i64 t.at_]) = .returned (TokE t) ∧ PSt (((w.setCell ⟨P, 0, none⟩ (.slice A' l.length c')).alloc o).alloc o') P E ⟨l, st⟩ ∧ w.grownBy (((w.setCell ⟨P, 0, none⟩ (.slice A' l.length c')).alloc o).alloc o') (some P) := by
  have hg : w.grownBy (((w.setCell ⟨P, 0, none⟩ (.slice A' l.length c')).alloc o).alloc o') (some P) := grown_lit (grown_lit (grown_set w P 0 _) _) _
  refine ⟨rfl, PSt.lay hg ?_ hl hlt hP, hg⟩
  rw [Below.heap_alloc _ _ _ (by simp [World.setCell]; omega), Below.heap_alloc _ _ _ (by simpa [World.setCell] using hP)]
  exact heap_setCell_same hp _
set_option maxHeartbeats 1000000 in
theorem take_yes (P E : Nat) (t : T) (l : List T) (st : Bool) (w : World) (h : PSt w P E ⟨t :: l, st⟩) : Calls Tryz.prog 168 #[.pointer (some ⟨P, 0, none⟩), .bool true] w fun e w' => e = .returned (TokE t) ∧ PSt w' P E ⟨l, st⟩ ∧ w.grownBy w' (some P) := by
  obtain ⟨A, c, hp, hl, hlt⟩ := h
  simp only at hp hl
  have hf := heap_free hp 0
  have c0 := heap_cell hp 0
  simp at c0
  obtain ⟨ad, rfl, p0, p1, p2, p3⟩ := hl.head
  have q0 := fun o => up p0 o
  have q1 := fun o => up p1 o
  have q2 := fun o => up p2 o
  have q3 := fun o => up p3 o
  have hPl := (Array.getElem?_eq_some_iff.1 hp).1
  have hle := hl.le
  have hcm := hl.cap
  have hadP := hlt ad rfl
  unfold maxLen at hcm
  simp only [List.length_cons] at hle
  have HL := Lib.hid hl
  have HP := Lib.hid hp
  clear hl hp
  go_enter Tryz.func168, Tryz.ntmps168
  go_wp2_with fail
  · have hl0 : l = [] := List.eq_nil_of_length_eq_zero (by omega)
    subst hl0
    refine bodyPost_ret (results_tok0 rfl _ _ w.heap.size _ _ _ _ _ (0, 0) rfl (heap_first _ _ _ (by simp [World.setCell]))) rfl ?_
    exact take_end (A' := some ad) (c' := 0) HP.out (SlT.none_left (by unfold maxLen; omega) (by simp)) hlt hPl
  · refine bodyPost_ret (results_tok0 rfl _ _ w.heap.size _ _ _ _ _ (0, 0) rfl (heap_first _ _ _ (by simp [World.setCell]))) rfl ?_
    refine take_end (A' := some ⟨ad.block, ad.off + 4, none⟩) (c' := c - 1) HP.out ?_ (by intro a ha; injection ha with ha; subst ha; exact hadP) hPl
    have := HL.out.tail
    simpa [Addr.add] using this
/-- One token is taken, if it fits. -/
theorem take_any (P E : Nat) (s : S) (b : Bool) (hb : b = true → s.l ≠ []) (w : World) (h : PSt w P E s) : Calls Tryz.prog 168 #[.pointer (some ⟨P, 0, none⟩), .bool b] w fun e w' => e = .returned (TokE (s.tok b)) ∧ PSt w' P E (s.eat b) ∧ w.grownBy w' (some P) := by
  obtain ⟨l, st⟩ := s
  cases b with
  | false => exact take_no P E _ w h
  | true =>
    cases l with
    | nil => exact absurd rfl (hb rfl)
    | cons t l => exact take_yes P E t l st w h
theorem fld_text (a c d : Int) (x : ByteArray) (w : World) : (Instr.field 155 (.agg #[.int .i64 a, .string x, .int .i64 c, .int .i64 d]) 1).run Tryz.prog w = .ok (.string x) w := by kernel_rfl
theorem fld_num (a c d : Int) (x : ByteArray) (w : World) : (Instr.field 155 (.agg #[.int .i64 a, .string x, .int .i64 c, .int .i64 d]) 2).run Tryz.prog w = .ok (.int .i64 c) w := by kernel_rfl
theorem name_any7 (P E : Nat) (s : S) (w : World) (h : PSt w P E s) : Calls Tryz.prog 142 #[.pointer (some ⟨P, 0, none⟩)] w fun e w' => e = .returned (.string (txt s.nameT)) ∧ PSt w' P E s.name ∧ w.grownBy w' (some P) := by
  have HI := Lib.hid (is_any P E 0 s w h)
  have HT := Lib.hid (take_any P E s (s.is 0) (fun hb => (S.is_ne hb).2) w h)
  have HX : Hid ((s.tok (s.is 0)).text = s.nameT) := Lib.hid (by unfold S.nameT S.tok; split <;> rfl)
  go_enter Tryz.func142, Tryz.ntmps142
  go_wp2_with fail
  refine HI.out.mono ?_
  rintro e w' ⟨rfl, rfl⟩
  go_wp2_with fail
  refine HT.out.mono ?_
  rintro e w' ⟨rfl, hp, hg⟩
  unfold TokE TokV
  have hf := fld_text
  go_wp2
  go_ret
  exact ⟨by rw [← HX.out]; rfl, hp, hg⟩
theorem num_any7 (P E : Nat) (s : S) (w : World) (h : PSt w P E s) : Calls Tryz.prog 169 #[.pointer (some ⟨P, 0, none⟩)] w fun e w' => e = .returned (.int .i64 s.numV) ∧ PSt w' P E s.num ∧ w.grownBy w' (some P) := by
  have HI := Lib.hid (is_any P E 1 s w h)
  have HT := Lib.hid (take_any P E s (s.is 1) (fun hb => (S.is_ne hb).2) w h)
  have HX : Hid ((s.tok (s.is 1)).num = s.numV) := Lib.hid (by unfold S.numV S.tok; split <;> rfl)
  go_enter Tryz.func169, Tryz.ntmps169
  go_wp2_with fail
  refine HI.out.mono ?_
  rintro e w' ⟨rfl, rfl⟩
  go_wp2_with fail
  refine HT.out.mono ?_
  rintro e w' ⟨rfl, hp, hg⟩
  unfold TokE TokV
  have hf := fld_num
  go_wp2
  go_ret
  exact ⟨by rw [← HX.out]; rfl, hp, hg⟩
theorem sign_any7 (P E : Nat) (s : S) (x : ByteArray) (w : World) (h : PSt w P E s) : Calls Tryz.prog 143 #[.pointer (some ⟨P, 0, none⟩), .string x] w fun e w' => e = .returned (.tuple #[]) ∧ PSt w' P E (s.sign x.data.toList) ∧ w.grownBy w' (some P) := by
  have HI := Lib.hid (sees_any P E 3 x s w h)
  have HT := Lib.hid (take_any P E s (s.sees 3 x.data.toList) (fun hb => (S.sees_ne hb).2) w h)
  go_enter Tryz.func143, Tryz.ntmps143
  go_wp2_with fail
  refine HI.out.mono ?_
  rintro e w' ⟨rfl, rfl⟩
  go_wp2_with fail
  refine HT.out.mono ?_
  rintro e w' ⟨rfl, hp, hg⟩
  go_wp2
  refine bodyPost_end (results_none rfl _ _ _) rfl ?_
  exact ⟨rfl, hp, hg⟩
theorem word_any7 (P E : Nat) (s : S) (x : ByteArray) (w : World) (h : PSt w P E s) : Calls Tryz.prog 141 #[.pointer (some ⟨P, 0, none⟩), .string x] w fun e w' => e = .returned (.tuple #[]) ∧ PSt w' P E (s.word x.data.toList) ∧ w.grownBy w' (some P) := by
  have HI := Lib.hid (sees_any P E 0 x s w h)
  have HT := Lib.hid (take_any P E s (s.sees 0 x.data.toList) (fun hb => (S.sees_ne hb).2) w h)
  go_enter Tryz.func141, Tryz.ntmps141
  go_wp2_with fail
  refine HI.out.mono ?_
  rintro e w' ⟨rfl, rfl⟩
  go_wp2_with fail
  refine HT.out.mono ?_
  rintro e w' ⟨rfl, hp, hg⟩
  go_wp2
  refine bodyPost_end (results_none rfl _ _ _) rfl ?_
  exact ⟨rfl, hp, hg⟩
/-- A name and its number. -/
theorem nbd_any7 (P E : Nat) (s : S) (w : World) (h : PSt w P E s) : Calls Tryz.prog 145 #[.pointer (some ⟨P, 0, none⟩)] w fun e w' => e = .returned (.tuple #[.string (txt s.nameT), .int .i64 s.nbdNo]) ∧ PSt w' P E s.nbd ∧ w.grownBy w' (some P) := by
  have H1 := Lib.hid (name_any7 P E s w h)
  have H2 := Lib.hid (fun w h => sign_any7 P E s.name ⟨#[61]⟩ w h)
  have H3 := Lib.hid (fun w h => num_any7 P E (s.name.sign [61]) w h)
  have H4 := Lib.hid (fun w h => sign_any7 P E (s.name.sign [61]).num ⟨#[59]⟩ w h)
  go_enter Tryz.func145, Tryz.ntmps145
  go_wp2_with fail
  refine H1.out.mono ?_
  rintro e w1 ⟨rfl, hp1, hg1⟩
  go_wp2_with fail
  refine (H2.out w1 hp1).mono ?_
  rintro e w2 ⟨rfl, hp2, hg2⟩
  go_wp2_with fail
  refine (H3.out w2 hp2).mono ?_
  rintro e w3 ⟨rfl, hp3, hg3⟩
  go_wp2_with fail
  refine (H4.out w3 hp3).mono ?_
  rintro e w4 ⟨rfl, hp4, hg4⟩
  go_wp2
  go_ret2
  exact ⟨rfl, hp4, ((hg1.trans hg2).trans hg3).trans hg4⟩
end Go.Proofs.YtciiemomfniecaaGreatDoor
/-
  A field is read: the contract.
-/
namespace Go.Proofs.YtciiemomfniecaaGreatDoor
set_option maxRecDepth 100000

open Go.RowKit

/-- A field's cells. -/
def FC (d : Fd) : List Value := [.string (txt d.type), .string (txt d.key), .bool d.rep, .int .i64 d.one, .string (txt d.name), .int .i64 d.no, .int .i64 d.at_]
def FdV (d : Fd) : Value := .agg (FC d).toArray
theorem infoFd : (Tryz.prog.info? 53).map (·.size) = some 7 := by kernel_rfl
theorem wpList_store_fd {ops : Array Oper} {rest : List Oper} {o : Oper} {a : Act} {w : World} {Q : Exit → Act → World → Prop} (hgd : o.guard = none) (x y : Operand) (ho : o.op = .store 53 x y)
    (hd : o.dst = none) (g : Nat) (b0 b1 b4 : ByteArray) (b2 : Bool) (b3 b5 b6 : Int) (u0 u1 u2 u3 u4 u5 u6 : Value) (hx : a.eval x = .pointer (some ⟨g, 0, none⟩)) (hy : a.eval y = .agg #[.string b0, .string b1, .bool b2, .int .i64 b3, .string b4, .int .i64 b5, .int .i64 b6])
    (t : TypeId) (hg : w.heap[g]? = some (.cells #[u0, u1, u2, u3, u4, u5, u6] t (0, 0)))
    (h : wpList Tryz.prog ops Q rest a (w.setRow g #[.string b0, .string b1, .bool b2, .int .i64 b3, .string b4, .int .i64 b5, .int .i64 b6])) : wpList Tryz.prog ops Q (o :: rest) a w :=
  wpList_store_rowTo hgd 53 x y ho hd g _ hx hy t _ hg infoFd rfl (by simp [Value.oneCell']) h
theorem wpList_load_fd {ops : Array Oper} {rest : List Oper} {o : Oper} {a : Act} {w : World} {Q : Exit → Act → World → Prop} (hgd : o.guard = none) (x : Operand) (ho : o.op = .load 53 x)
    (g : Nat) (u0 u1 u2 u3 u4 u5 u6 : Value) (hx : a.eval x = .pointer (some ⟨g, 0, none⟩)) (t : TypeId) (fr : Nat × Nat) (hg : w.heap[g]? = some (.cells #[u0, u1, u2, u3, u4, u5, u6] t fr))
    (h : wpList Tryz.prog ops Q rest (a.put o.dst (.agg #[u0, u1, u2, u3, u4, u5, u6])) w) : wpList Tryz.prog ops Q (o :: rest) a w :=
  wpList_load_row hgd 53 x ho g hx t _ fr _ hg Tryz.underlying53 rfl infoFd h
theorem results_fd {fn : Func} {p : Tmp} (h : fn.results = #[.cell p 53]) (tmps : Array Value) (w : World) (g : Nat) (t : TypeId) (u0 u1 u2 u3 u4 u5 u6 : Value) (fr : Nat × Nat)
    (hp : tmps.getD p undef = .pointer (some ⟨g, 0, none⟩)) (hg : w.heap[g]? = some (.cells #[u0, u1, u2, u3, u4, u5, u6] t fr)) :
    (results fn tmps).run Tryz.prog w = .ok (.agg #[u0, u1, u2, u3, u4, u5, u6]) w :=
  results_cell_row h tmps w g t _ fr _ hp hg Tryz.underlying53 rfl infoFd
/-- A block that is younger than the parser stays when the parser takes. -/
theorem stays {w w' : World} {P g : Nat} {o : Obj} (h : w.heap[g]? = some o) (hg : w.grownBy w' (some P)) (hP : P < g) : w'.heap[g]? = some o :=
  (hg.block g (Array.getElem?_eq_some_iff.1 h).1 (by simp; omega)).trans h

/-- Below block B nothing but block P has turned. -/
structure Kp (B P : Nat) (w w' : World) : Prop where
  os : w'.os = w.os
  tape : w'.tape = w.tape
  output : w'.output = w.output
  size : w.heap.size ≤ w'.heap.size
  block : ∀ k, k < B → k ≠ P → w'.heap[k]? = w.heap[k]?
theorem Kp.refl (B P : Nat) (w : World) : Kp B P w w := ⟨rfl, rfl, rfl, Nat.le_refl _, fun _ _ _ => rfl⟩
theorem Kp.trans {B P : Nat} {a b c : World} (h : Kp B P a b) (k : Kp B P b c) : Kp B P a c :=
  ⟨k.os.trans h.os, k.tape.trans h.tape, k.output.trans h.output, Nat.le_trans h.size k.size, fun i hi hp => (k.block i hi hp).trans (h.block i hi hp)⟩
theorem Kp.alloc {B P : Nat} {a w : World} (h : Kp B P a w) (hB : B ≤ w.heap.size) (o : Obj) : Kp B P a (w.alloc o) :=
  h.trans ⟨rfl, rfl, rfl, by simp, fun k hk _ => Below.heap_alloc _ _ _ (by omega)⟩
theorem Kp.setCell {B P : Nat} {a w : World} (h : Kp B P a w) {p : Addr} (hp : B ≤ p.block) (u : Value) : Kp B P a (w.setCell p u) :=
  h.trans ⟨rfl, rfl, rfl, by simp [World.setCell], fun k hk _ => Below.heap_setCell _ _ _ _ (by omega)⟩
theorem Kp.setRow {B P : Nat} {a w : World} (h : Kp B P a w) {g : Nat} (hp : B ≤ g) (cs : Array Value) : Kp B P a (w.setRow g cs) :=
  h.trans ⟨rfl, rfl, rfl, by simp, fun k hk _ => setRow_other _ _ _ _ (by omega)⟩
theorem Kp.taken {B P : Nat} {a w w' : World} (h : Kp B P a w) (hg : w.grownBy w' (some P)) (hB : B ≤ w.heap.size) : Kp B P a w' :=
  h.trans ⟨hg.os, hg.tape, hg.output, hg.size, fun k hk hp => hg.block k (by omega) (by simpa using hp)⟩
theorem Kp.grown {B P : Nat} {a w w' : World} {row : Option Nat} (h : Kp B P a w) (hg : w.grownBy w' row) (hB : B ≤ w.heap.size) (hr : ∀ k, row = some k → B ≤ k) : Kp B P a w' :=
  h.trans ⟨hg.os, hg.tape, hg.output, hg.size, fun k hk _ => hg.block k (by omega) (fun e => by have := hr k e.symm; omega)⟩
theorem Kp.drew {B P : Nat} {a w : World} (h : Kp B P a w) (n : Nat) : Kp B P a (w.drewN n) := h.trans ⟨rfl, rfl, rfl, Nat.le_refl _, fun _ _ _ => rfl⟩
theorem Kp.mono {B B' P : Nat} {a w : World} (h : Kp B P a w) (hB : B' ≤ B) : Kp B' P a w := ⟨h.os, h.tape, h.output, h.size, fun k hk hp => h.block k (by omega) hp⟩
theorem Kp.out {P : Nat} {w w' : World} (h : Kp w.heap.size P w w') : w.grownBy w' (some P) :=
  ⟨h.os, h.tape, h.output, h.size, fun k hk hp => h.block k hk (by simpa using hp)⟩
theorem heap_second (w : World) (o o' : Obj) : ((w.alloc o).alloc o').heap[w.heap.size + 1]? = some o' := by
  have := heap_alloc_new (w.alloc o) o'
  simpa using this
set_option maxHeartbeats 1000000 in
theorem field_any (P E : Nat) (s : S) (w : World) (h : PSt w P E s) : Calls Tryz.prog 193 #[.pointer (some ⟨P, 0, none⟩)] w fun e w' => e = .returned (FdV (s.fld E)) ∧ PSt w' P E s.fldS ∧ w.grownBy w' (some P) := by
  have H1 := Lib.hid (fun w h => place_any P E s w h)
  have H2 := Lib.hid (fun w h => name_any7 P E s w h)
  have H3 := Lib.hid (fun w h => nbd_any7 P E s.name w h)
  have hP := h.lt
  have HX : Hid (FdV (s.fld E) = .agg #[.string (txt s.nameT), .string ⟨#[]⟩, .bool false, .int .i64 0, .string (txt s.name.nameT), .int .i64 s.name.nbdNo, .int .i64 (s.place E)]) := Lib.hid rfl
  go_enter Tryz.func193, Tryz.ntmps193
  go_wp2_with fail
  refine (H1.out _ (h.alloc _)).mono ?_
  rintro e w1 ⟨rfl, rfl⟩
  go_wp2_with fail
  refine (H2.out _ ((h.alloc _).alloc _)).mono ?_
  rintro e w1 ⟨rfl, hp1, hg1⟩
  have hs1 := hg1.size
  simp at hs1
  have hR1 := stays (heap_first w _ _ rfl) hg1 hP
  have hB1 := stays (heap_second w _ _) hg1 (by omega)
  have c0 := heap_cell hB1 0
  have f0 := heap_free hB1 0
  simp at c0
  have HR1 := Lib.hid hR1
  have HB1 := Lib.hid hB1
  clear hR1 hB1
  go_wp2_with fail
  refine (H3.out _ (hp1.setCell (by simp; omega) _)).mono ?_
  rintro e w2 ⟨rfl, hp2, hg2⟩
  have hs2 := hg2.size
  simp [World.setCell] at hs2
  have hB2 := stays (heap_setCell_same HB1.out _) hg2 (by omega)
  have hR2 := stays ((Below.heap_setCell w1 _ _ _ (by simp)).trans HR1.out) hg2 hP
  simp at hB2
  have c4 := heap_cell hB2 4
  have f4 := heap_free hB2 4
  have c5 := heap_cell hB2 5
  have f5 := heap_free hB2 5
  simp at c4 c5
  have hB3 := fun u v => heap_setCell_same (heap_setCell_same hB2 (j := 4) u) (j := 5) v
  simp at hB3
  have hR3 := fun u v => ((Below.heap_setCell (w2.setCell ⟨w.heap.size + 1, 4, none⟩ u) ⟨w.heap.size + 1, 5, none⟩ v _ (by simp)).trans (Below.heap_setCell w2 ⟨w.heap.size + 1, 4, none⟩ u _ (by simp))).trans hR2
  have HB2 := Lib.hid hB2
  have HR2 := Lib.hid hR2
  clear hB2 hR2
  go_wp2_with (refine wpList_load_fd rfl _ rfl (w.heap.size + 1) _ _ _ _ _ _ _ rfl _ _ (hB3 _ _) ?_; refine wpList_store_fd rfl _ _ rfl rfl w.heap.size _ _ _ _ _ _ _ _ _ _ _ _ _ _ rfl rfl _ (hR3 _ _) ?_)
  refine bodyPost_ret (results_fd rfl _ _ w.heap.size _ _ _ _ _ _ _ _ (0, 0) rfl (setRow_heap _ _ _ _ _ _ (hR3 _ _))) rfl ?_
  exact ⟨by rw [HX.out], ((hp2.setCell (by simp; omega) _).setCell (by simp; omega) _).setRow hP _, (((((((Kp.refl w.heap.size P w).alloc (Nat.le_refl _) _).alloc (by simp) _).taken hg1 (by simp; omega)).setCell (by simp) _).taken hg2 (by simp [World.setCell]; omega)).setCell (by simp) _).setCell (by simp) _ |>.setRow (Nat.le_refl _) _ |>.out⟩
end Go.Proofs.YtciiemomfniecaaGreatDoor
