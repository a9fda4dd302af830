/-
  An enum is read: the contract.
-/
import Derived.Test.YtciiemomfniecaaGreatDoorProMess
namespace Go.Proofs.YtciiemomfniecaaGreatDoor
set_option maxRecDepth 100000

open Go.RowKit

def VC (v : Vl) : List Value := [.string (txt v.name), .int .i64 v.n, .int .i64 v.at_]
def vlv (l : List Vl) : List Value := l.flatMap VC
theorem vlv_append (a b : List Vl) : vlv (a ++ b) = vlv a ++ vlv b := by simp [vlv]
theorem vlv_one (d : Vl) : vlv [d] = VC d := by simp [vlv]
theorem vlv_cells (l : List Vl) : ∀ u ∈ vlv l, u.oneCell' = true := by
  intro u hu
  obtain ⟨r, _, hr⟩ := List.mem_flatMap.1 hu
  simp only [VC, List.mem_cons, List.not_mem_nil, or_false] at hr
  rcases hr with rfl | rfl | rfl <;> rfl
theorem infoVls : (Tryz.prog.info? 83).map (fun i => (i.zero, i.size, i.bytes)) = some (some (.agg #[.string ⟨#[]⟩, .int .i64 0, .int .i64 0]), 3, 32) := by kernel_rfl
/-- An enum under way: its block, and its row. -/
structure ERow (w : World) (M : Nat) (e : En) (vV : Value) : Prop where
  box : w.heap[M]? = some (.cells #[.string (txt e.name), vV, .int .i64 e.at_] 65 (0, 0))
  v : w.ownsRow (M + 1) 83 3 vV e.V.length (vlv e.V)
theorem ERow.lt {w : World} {M : Nat} {e : En} {vV : Value} (h : ERow w M e vV) : M < w.heap.size := (Array.getElem?_eq_some_iff.1 h.box).1
theorem ERow.kept {w w' : World} {M : Nat} {e : En} {vV : Value} (h : ERow w M e vV) (hk : ∀ k, M ≤ k → k < w.heap.size → w'.heap[k]? = w.heap[k]?) : ERow w' M e vV :=
  ⟨(hk M (Nat.le_refl _) h.lt).trans h.box, own_kept (B := 0) (P := 0) h.v (fun k hk1 hk2 => hk k (by omega) hk2)⟩
theorem ERow.taken {w w' : World} {P M : Nat} {e : En} {vV : Value} (h : ERow w M e vV) (hg : w.grownBy w' (some P)) (hP : P < M) : ERow w' M e vV :=
  h.kept fun k hk1 hk2 => hg.block k hk2 (by simp; omega)
theorem ERow.alloc {w : World} {M : Nat} {e : En} {vV : Value} (h : ERow w M e vV) (o : Obj) : ERow (w.alloc o) M e vV :=
  h.kept fun k _ hk2 => Below.heap_alloc w o k hk2
theorem ERow.far {w w' : World} {P M : Nat} {e : En} {vV : Value} (h : ERow w M e vV) (hk : Kp w.heap.size P w w') (hP : P < M) : ERow w' M e vV :=
  h.kept fun k hk1 hk2 => hk.block k hk2 (by omega)
theorem ERow.add {w w' : World} {M : Nat} {e : En} {vV v : Value} {d : Vl} (h : ERow w M e vV) (hg : w.grownBy w' vV.ownBlock) (hown : w'.ownsRow (M + 1) 83 3 v (e.V.length + 1) (vlv e.V ++ VC d)) :
    ERow (w'.setCell ⟨M, 1, none⟩ v) M { e with V := e.V ++ [d] } v := by
  have hb : w'.heap[M]? = _ := (hg.block M h.lt (fun e => by have := own_M h.v M e.symm; omega)).trans h.box
  refine ⟨?_, ?_⟩
  · have := heap_setCell_same hb (j := 1) v
    simpa using this
  · have := own_set hown (a := ⟨M, 1, none⟩) (by simp) v
    simpa [vlv_append, vlv_one] using this
def EnV (e : En) (vV : Value) : Value := .agg #[.string (txt e.name), vV, .int .i64 e.at_]
theorem infoEn : (Tryz.prog.info? 65).map (·.size) = some 3 := by kernel_rfl
theorem infoVl : (Tryz.prog.info? 83).map (·.size) = some 3 := by kernel_rfl
theorem wpList_store_en {ops : Array Oper} {rest : List Oper} {o : Oper} {a : Act} {w : World} {Q : Exit → Act → World → Prop} (hgd : o.guard = none) (x y : Operand) (ho : o.op = .store 65 x y)
    (hd : o.dst = none) (g : Nat) (b0 : ByteArray) (v1 : Value) (b2 : Int) (u0 u1 u2 : Value) (hx : a.eval x = .pointer (some ⟨g, 0, none⟩)) (hy : a.eval y = .agg #[.string b0, v1, .int .i64 b2])
    (h1 : v1.oneCell' = true) (t : TypeId) (hg : w.heap[g]? = some (.cells #[u0, u1, u2] t (0, 0)))
    (h : wpList Tryz.prog ops Q rest a (w.setRow g #[.string b0, v1, .int .i64 b2])) : wpList Tryz.prog ops Q (o :: rest) a w :=
  wpList_store_rowTo hgd 65 x y ho hd g _ hx hy t _ hg infoEn rfl (by simp [h1]; simp [Value.oneCell']) h
theorem wpList_load_en {ops : Array Oper} {rest : List Oper} {o : Oper} {a : Act} {w : World} {Q : Exit → Act → World → Prop} (hgd : o.guard = none) (x : Operand) (ho : o.op = .load 65 x)
    (g : Nat) (u0 u1 u2 : Value) (hx : a.eval x = .pointer (some ⟨g, 0, none⟩)) (t : TypeId) (fr : Nat × Nat) (hg : w.heap[g]? = some (.cells #[u0, u1, u2] t fr))
    (h : wpList Tryz.prog ops Q rest (a.put o.dst (.agg #[u0, u1, u2])) w) : wpList Tryz.prog ops Q (o :: rest) a w :=
  wpList_load_row hgd 65 x ho g hx t _ fr _ hg Tryz.underlying65 rfl infoEn h
theorem results_en {fn : Func} {p : Tmp} (h : fn.results = #[.cell p 65]) (tmps : Array Value) (w : World) (g : Nat) (t : TypeId) (u0 u1 u2 : Value) (fr : Nat × Nat)
    (hp : tmps.getD p undef = .pointer (some ⟨g, 0, none⟩)) (hg : w.heap[g]? = some (.cells #[u0, u1, u2] t fr)) :
    (results fn tmps).run Tryz.prog w = .ok (.agg #[u0, u1, u2]) w :=
  results_cell_row h tmps w g t _ fr _ hp hg Tryz.underlying65 rfl infoEn
theorem valsF_in (E : Nat) (s : S) (e : En) (h : s.inside = true) : valsF E s e = valsF E s.nbd { e with V := e.V ++ [⟨s.nameT, s.nbdNo, s.place E⟩] } := by rw [valsF, dif_pos h]
def VlRel (P E M : Nat) (w : World) (X : S × En) (K : Nat) (wr : World) : Prop := ∃ s e vV, PSt wr P E s ∧ ERow wr M e vV ∧ Kp M P w wr ∧ valsF E s e = X ∧ e.V.length + s.mu ≤ K
def ERead (w : World) (e : En) (vV : Value) : Prop := w.ownsRow 0 83 3 vV e.V.length (vlv e.V)
def EnPost (P E : Nat) (w : World) (X : S × En) (e : Ending) (w' : World) : Prop := ∃ vV, e = .returned (EnV X.2 vV) ∧ ERead w' X.2 vV ∧ PSt w' P E X.1 ∧ w.grownBy w' (some P)
/-- A row of one type stays while a block of another type is written. -/
theorem own_other {w w' : World} {b : Nat} {e : TypeId} {size : Nat} {v : Value} {n : Nat} {xs : List Value} (hr : w.ownsRow b e size v n xs) {g : Nat} {cs : Array Value} {t : TypeId} {fr : Nat × Nat} (hg : w.grownBy w' (some g)) (ho : w.heap[g]? = some (.cells cs t fr)) (ht : t ≠ e) : w'.ownsRow b e size v n xs := by
  refine hr.kept hg ?_
  rcases hr.2 with ⟨rfl, _⟩ | ⟨g', cap, cur, rfl, _, h2, _⟩
  · exact .inl rfl
  · right
    simp only [Value.ownBlock, ne_eq, Option.some.injEq]
    rintro rfl
    rw [h2] at ho
    simp only [Option.some.injEq, Obj.cells.injEq] at ho
    exact ht ho.2.1.symm
theorem heap_new_set0 (w : World) (a b : Addr) (u v : Value) (o : Obj) : (((w.setCell a u).setCell b v).alloc o).heap[w.heap.size]? = some o := by
  have := heap_alloc_new ((w.setCell a u).setCell b v) o
  simpa [World.setCell] using this
theorem new_enum (w : World) (name : ByteArray) (e : En) (hn : name = txt e.name) (h0 : e.V = []) {M : Nat} (hb : w.heap[M]? = some (.cells #[.string name, .slice none 0 0, .int .i64 e.at_] 65 (0, 0))) : ERow w M e (.slice none 0 0) :=
  ⟨by rw [← hn]; exact hb, by rw [h0]; exact World.ownsRow_nil _ _ _ _⟩

set_option maxHeartbeats 2000000 in
theorem enum_any (P E : Nat) (s : S) (w : World) (hp : PSt w P E s) (hst : s.st = false) (hn : s.mu ≤ 50000) :
    Calls Tryz.prog 116 #[.pointer (some ⟨P, 0, none⟩)] w (EnPost P E w (enumF E s)) := by
  obtain ⟨j0, hj, hy0, hy1, hy2⟩ := info_parts infoVls
  have hPl := hp.lt
  have hmu1 := enS_mu s hst
  have H0 := Lib.hid (fun s w h => place_any P E s w h)
  have H1 := Lib.hid (fun w h => word_any7 P E s ⟨#[101, 110, 117, 109]⟩ w h)
  have H2 := Lib.hid (fun w h => name_any7 P E (s.word wEnum) w h)
  have H3 := Lib.hid (fun w h => sign_any7 P E (s.word wEnum).name ⟨#[123]⟩ w h)
  have HS : Hid (enumF E s = ((valsF E (enS s) (enE E s)).1.sign [125], (valsF E (enS s) (enE E s)).2)) := Lib.hid rfl
  have HMM : Hid (enE E s = ⟨(s.word wEnum).nameT, [], s.place E⟩) := Lib.hid rfl
  have HMU := Lib.hid hmu1
  have HP := Lib.hid hp
  clear hp hst hmu1
  go_enter Tryz.func116, Tryz.ntmps116
  go_wp2_with fail
  refine (H0.out _ _ (HP.out.alloc _)).mono ?_
  rintro e w0 ⟨rfl, rfl⟩
  go_wp2_with fail
  refine (H1.out _ ((HP.out.alloc _).alloc _)).mono ?_
  rintro e w1 ⟨rfl, hp1, hg1⟩
  have hs1 := hg1.size
  simp at hs1
  have HK1 := Lib.hid ((((Kp.refl w.heap.size P w).alloc (Nat.le_refl _) _).alloc (by simp) _).taken hg1 (by simp; omega))
  have HR1 := Lib.hid (stays (heap_first w _ _ rfl) hg1 hPl)
  have HB1 := Lib.hid (stays (heap_second w _ _) hg1 (by omega))
  clear hg1
  go_wp2_with fail
  refine (H2.out w1 hp1).mono ?_
  rintro e w2 ⟨rfl, hp2, hg2⟩
  have hs2 := hg2.size
  have HK2 := Lib.hid (HK1.out.taken hg2 (by omega))
  have HR2 := Lib.hid (stays HR1.out hg2 hPl)
  have HB2 := Lib.hid (stays HB1.out hg2 (by omega))
  have c0 := heap_cell HB2.out 0
  have f0 := heap_free HB2.out 0
  simp at c0
  clear hg2 HK1 HR1 HB1
  go_wp2_with fail
  refine (H3.out _ (hp2.setCell (by simp; omega) _)).mono ?_
  rintro e w3 ⟨rfl, hp3, hg3⟩
  have hs3 := hg3.size
  simp [World.setCell] at hs3
  have HK3 := Lib.hid ((HK2.out.setCell (by simp) _).taken hg3 (by simp [World.setCell]; omega))
  have HR3 := Lib.hid (stays ((Below.heap_setCell w2 _ _ _ (by simp)).trans HR2.out) hg3 hPl)
  have hb3 := stays (heap_setCell_same HB2.out _) hg3 (by omega)
  simp at hb3
  have HM3 : Hid (ERow w3 (w.heap.size + 1) (enE E s) (.slice none 0 0)) := Lib.hid (new_enum w3 _ _ (by rw [HMM.out]) rfl (by rw [hb3, HMM.out]))
  have HP3 : Hid (PSt w3 P E (enS s)) := Lib.hid hp3
  clear hg3 HK2 HR2 HB2 c0 f0 hb3 hp3
  generalize hX : valsF E (enS s) (enE E s) = X at *
  have HX := Lib.hid hX
  clear hX
  go_wp2
  go_loopw [4] (fun _ wr => VlRel P E (w.heap.size + 1) w3 X 50000 wr) (fun _ wr => muW wr P)
  case atStart => exact ⟨enS s, enE E s, _, HP3.out, HM3.out, Kp.refl _ _ _, HX.out, by have := HMU.out; show 0 + _ ≤ _; omega⟩
  case round =>
    obtain ⟨s5, m5, vV, hp5, hm5, hk5, hx5, hw5⟩ := hrel
    have HX5 := Lib.hid hx5
    have HM5 := Lib.hid hm5
    have HK5 := Lib.hid hk5
    have HP5 := Lib.hid hp5
    have hmu5 := hp5.mu
    have hI := inside_any P E s5 _ hp5
    clear hx5 hm5 hk5 hp5
    cases hin : s5.inside
    · rw [hin] at hI
      have HI := Lib.hid hI
      have HE : Hid (X = (s5, m5)) := Lib.hid (by rw [← HX5.out, valsF, dif_neg (by rw [hin]; decide)])
      clear hI hin
      have HMU5 := Lib.hid hmu5
      clear hmu5
      go_wp2_with fail
      refine HI.out.mono ?_
      rintro e w6 ⟨rfl, rfl⟩
      go_wp2_with fail
      refine (sign_any7 P E s5 ⟨#[125]⟩ _ HP5.out).mono ?_
      rintro e w7 ⟨rfl, hp7, hg7⟩
      have hsr := HK5.out.size
      have hr7 := HM5.out.taken hg7 (by omega)
      have hk7 := HK5.out.taken hg7 (by omega)
      have hR7 := (hk7.block w.heap.size (by omega) (by omega)).trans HR3.out
      have HR7 := Lib.hid hr7
      have HB7 := Lib.hid hr7.box
      have HK7 : Hid (Kp w.heap.size P w w7) := Lib.hid (HK3.out.trans (hk7.mono (by omega)))
      have HRR := Lib.hid hR7
      have g1 := own_one hr7.v
      clear hr7 hk7 hR7
      go_wp2_with (refine wpList_load_en rfl _ rfl (w.heap.size + 1) _ _ _ rfl _ _ HB7.out ?_; refine wpList_store_en rfl _ _ rfl rfl w.heap.size _ _ _ _ _ _ rfl rfl g1 _ HRR.out ?_)
      refine bodyPost_ret (results_en rfl _ _ w.heap.size _ _ _ _ (0, 0) rfl (setRow_heap _ _ _ _ _ _ HRR.out)) rfl ?_
      rw [HS.out, HE.out]
      have hgr : w7.grownBy (w7.setRow w.heap.size #[.string (txt m5.name), vV, .int .i64 m5.at_]) (some w.heap.size) := ⟨rfl, rfl, rfl, by simp, fun k _ hk => setRow_other _ _ _ _ (by simpa using hk)⟩
      exact ⟨vV, rfl, own_other (own_mono HR7.out.v (Nat.zero_le _)) hgr HRR.out (by decide), hp7.setRow (by omega) _, (HK7.out.setRow (Nat.le_refl _) _).out⟩
    · rw [hin] at hI
      have HI := Lib.hid hI
      have hst5 := S.inside_st hin
      have HN := Lib.hid (show valsF E s5.nbd { m5 with V := m5.V ++ [⟨s5.nameT, s5.nbdNo, s5.place E⟩] } = X by rw [← HX5.out, valsF_in E s5 m5 hin])
      have hmu6 := (S.nbd_mu s5).2 hst5
      have HC : Hid (VC ⟨s5.nameT, s5.nbdNo, s5.place E⟩ = [.string (txt s5.nameT), .int .i64 s5.nbdNo, .int .i64 (s5.place E)]) := Lib.hid rfl
      have HB := Lib.hid (fun w h => nbd_any7 P E s5 w h)
      have hsr := HK5.out.size
      clear hI hin hst5
      have HMU5 := Lib.hid hmu5
      clear hmu5
      go_wp2_with fail
      refine HI.out.mono ?_
      rintro e w6 ⟨rfl, rfl⟩
      go_wp2_with fail
      refine (H0.out _ _ HP5.out).mono ?_
      rintro e w6 ⟨rfl, rfl⟩
      go_wp2_with fail
      refine (HB.out _ (HP5.out.alloc _)).mono ?_
      rintro e w7 ⟨rfl, hp7, hg7⟩
      have hs7 := hg7.size
      simp at hs7
      have hM5 := HM5.out.lt
      have hb7 := stays (heap_alloc_new wr _) hg7 (by omega)
      have hk7 := ((Kp.refl wr.heap.size P wr).alloc (Nat.le_refl _) (.cells #[.string ⟨#[]⟩, .int .i64 0, .int .i64 (s5.place E)] 83)).taken hg7 (by simp)
      have HK7 := Lib.hid ((hk7.setCell (p := ⟨wr.heap.size, 0, none⟩) (Nat.le_refl _) (.string (txt s5.nameT))).setCell (p := ⟨wr.heap.size, 1, none⟩) (Nat.le_refl _) (.int .i64 s5.nbdNo))
      have hr7 := HM5.out.far hk7 (by omega)
      have c0 := heap_cell hb7 0
      have c1 := heap_cell hb7 1
      have c2 := heap_cell hb7 2
      have f0 := heap_free hb7 0
      have f1 := heap_free hb7 1
      simp at c0 c1 c2
      have cM := heap_cell hr7.box 1
      simp at cM
      have HR7 := Lib.hid ((HM5.out.far HK7.out (by omega)).alloc (.cells #[.string (txt s5.nameT), .int .i64 s5.nbdNo, .int .i64 (s5.place E)] 83))
      have hM7 := hr7.lt
      clear hb7 hr7 hk7 hg7
      go_wp2_with (at_builtin; refine wpList_append_lies _ rfl _ _ _ rfl (w.heap.size + 2) 83 j0 _ 3 32 Tryz.underlying63 hj hy0 hy1 hy2 rfl (by omega) vV m5.V.length (vlv m5.V) rfl HR7.out.v ⟨w7.heap.size, 0, none⟩ 1 1 (VC ⟨s5.nameT, s5.nbdNo, s5.place E⟩) rfl rfl (by rw [HC.out]; exact World.news_of_block (heap_new_set0 w7 _ _ _ _ _)) (by intro u hu; exact vlv_cells [_] u (by rw [vlv_one]; exact hu)) (by omega) (by unfold maxLen; omega) (by omega) (by simp [World.setCell]; omega) (w7.heap.size + 1) (by simp [World.setCell]) ?_; intro g8 cap8 w8 hown8 hg8 hat8 hlt8; have hb8 := (hg8.block _ HR7.out.lt (fun e => by have := own_M HR7.out.v _ e.symm; omega)).trans HR7.out.box; have c8 := heap_cell hb8 1; have f8 := heap_free hb8 1; simp at c8; have HB8 := Lib.hid hb8; clear hb8)
      have hp9 := (((hp7.setCell (a := ⟨wr.heap.size, 0, none⟩) (by simp; omega) (.string (txt s5.nameT))).setCell (a := ⟨wr.heap.size, 1, none⟩) (by simp; omega) (.int .i64 s5.nbdNo)).alloc _).past (v := .slice (some ⟨g8, 0, none⟩) (m5.V.length + 1) cap8) (by omega) HR7.out.v hg8 1
      refine ⟨⟨s5.nbd, _, _, hp9, HR7.out.add hg8 hown8, HK5.out.trans (((HK7.out.mono (by omega)).alloc (by simp [World.setCell]; omega) _).past (by simp [World.setCell]; omega) HR7.out.v hg8 1), HN.out, by simp; omega⟩, ?_⟩
      rw [hp9.mu, HMU5.out]
      omega
end Go.Proofs.YtciiemomfniecaaGreatDoor
/-
  A file is read: its rows of messages and of enums; the contract.
-/
namespace Go.Proofs.YtciiemomfniecaaGreatDoor
set_option maxRecDepth 100000

open Go.RowKit

/-- The types of the innermost rows. -/
def leafT (t : TypeId) : Bool := t == 53 || t == 9 || t == 2 || t == 83
/-- The innermost rows stay. -/
def Leaf (w w' : World) : Prop := ∀ (k : Nat) (cs : Array Value) (t : TypeId), w.heap[k]? = some (Obj.cells cs t (0, 0)) → leafT t = true → w'.heap[k]? = w.heap[k]?
theorem Leaf.refl (w : World) : Leaf w w := fun _ _ _ _ _ => rfl
theorem Leaf.trans {a b c : World} (h : Leaf a b) (k : Leaf b c) : Leaf a c := fun i cs t hi ht => (k i cs t ((h i cs t hi ht).trans hi) ht).trans (h i cs t hi ht)
theorem Leaf.below {w w' : World} (h : Below w.heap.size w w') : Leaf w w' := fun i _ _ hi _ => h.block i (Array.getElem?_eq_some_iff.1 hi).1
theorem Leaf.alloc (w : World) (o : Obj) : Leaf w (w.alloc o) := fun i _ _ hi _ => Below.heap_alloc w o i (Array.getElem?_eq_some_iff.1 hi).1
theorem Leaf.grown {w w' : World} {g : Nat} {cs : Array Value} {t : TypeId} {fr : Nat × Nat} (hg : w.grownBy w' (some g)) (ho : w.heap[g]? = some (.cells cs t fr)) (ht : leafT t = false) : Leaf w w' := fun i cs' t' hi hl => by
  refine hg.block i (Array.getElem?_eq_some_iff.1 hi).1 ?_
  simp only [ne_eq, Option.some.injEq]
  rintro rfl
  rw [hi] at ho
  simp only [Option.some.injEq, Obj.cells.injEq] at ho
  rw [ho.2.1, ht] at hl
  cases hl
theorem Leaf.own {w w' : World} {b : Nat} {e : TypeId} {size : Nat} {v : Value} {n : Nat} {xs : List Value} (hr : w.ownsRow b e size v n xs) (hg : w.grownBy w' v.ownBlock) (ht : leafT e = false) : Leaf w w' := by
  rcases hr.2 with ⟨rfl, _⟩ | ⟨g', cap, cur, rfl, _, h2, _⟩
  · exact fun i _ _ hi _ => hg.block i (Array.getElem?_eq_some_iff.1 hi).1 (by simp [Value.ownBlock])
  · exact Leaf.grown hg h2 ht
theorem own_leaf {w w' : World} {b : Nat} {e : TypeId} {size : Nat} {v : Value} {n : Nat} {xs : List Value} (hr : w.ownsRow b e size v n xs) (h : Leaf w w') (ht : leafT e = true) : w'.ownsRow b e size v n xs := by
  rcases hr with ⟨hl, ⟨rfl, rfl⟩ | ⟨g, cap, cur, rfl, h1, h2, h3⟩⟩
  · exact ⟨hl, .inl ⟨rfl, rfl⟩⟩
  · exact ⟨hl, .inr ⟨g, cap, cur, rfl, h1, (h g _ _ h2 ht).trans h2, h3⟩⟩
theorem MRead.leaf {w w' : World} {m : Ms} {vF vO vR : Value} (h : MRead w m vF vO vR) (hl : Leaf w w') : MRead w' m vF vO vR := ⟨own_leaf h.f hl rfl, own_leaf h.o hl rfl, own_leaf h.r hl rfl⟩
theorem ERead.leaf {w w' : World} {e : En} {vV : Value} (h : ERead w e vV) (hl : Leaf w w') : ERead w' e vV := own_leaf h hl rfl
def MC (m : Ms) (vF vO vR : Value) : List Value := [.string (txt m.name), vF, vO, vR, .int .i64 m.at_]
def EC (e : En) (vV : Value) : List Value := [.string (txt e.name), vV, .int .i64 e.at_]
/-- Cells that read as messages. -/
def MsAre (w : World) : List Ms → List Value → Prop
  | [], xs => xs = []
  | m :: l, xs => ∃ vF vO vR ys, xs = MC m vF vO vR ++ ys ∧ MRead w m vF vO vR ∧ MsAre w l ys
def EnAre (w : World) : List En → List Value → Prop
  | [], xs => xs = []
  | e :: l, xs => ∃ vV ys, xs = EC e vV ++ ys ∧ ERead w e vV ∧ EnAre w l ys
theorem MsAre.leaf {w w' : World} (hl : Leaf w w') : ∀ {l : List Ms} {xs : List Value}, MsAre w l xs → MsAre w' l xs
  | [], _, h => h
  | _ :: _, _, ⟨vF, vO, vR, ys, h1, h2, h3⟩ => ⟨vF, vO, vR, ys, h1, h2.leaf hl, h3.leaf hl⟩
theorem EnAre.leaf {w w' : World} (hl : Leaf w w') : ∀ {l : List En} {xs : List Value}, EnAre w l xs → EnAre w' l xs
  | [], _, h => h
  | _ :: _, _, ⟨vV, ys, h1, h2, h3⟩ => ⟨vV, ys, h1, h2.leaf hl, h3.leaf hl⟩
theorem MsAre.snoc {w : World} {m : Ms} {vF vO vR : Value} (hm : MRead w m vF vO vR) : ∀ {l : List Ms} {xs : List Value}, MsAre w l xs → MsAre w (l ++ [m]) (xs ++ MC m vF vO vR)
  | [], xs, h => by cases h; exact ⟨vF, vO, vR, [], by simp, hm, rfl⟩
  | _ :: _, _, ⟨a, b, c, ys, h1, h2, h3⟩ => ⟨a, b, c, ys ++ MC m vF vO vR, by rw [h1]; simp, h2, h3.snoc hm⟩
theorem EnAre.snoc {w : World} {m : En} {vV : Value} (hm : ERead w m vV) : ∀ {l : List En} {xs : List Value}, EnAre w l xs → EnAre w (l ++ [m]) (xs ++ EC m vV)
  | [], xs, h => by cases h; exact ⟨vV, [], by simp, hm, rfl⟩
  | _ :: _, _, ⟨a, ys, h1, h2, h3⟩ => ⟨a, ys ++ EC m vV, by rw [h1]; simp, h2, h3.snoc hm⟩
theorem MRead.cells {w : World} {m : Ms} {vF vO vR : Value} (h : MRead w m vF vO vR) : ∀ u ∈ MC m vF vO vR, u.oneCell' = true := by
  intro u hu
  simp only [MC, List.mem_cons, List.not_mem_nil, or_false] at hu
  rcases hu with rfl | rfl | rfl | rfl | rfl
  · rfl
  · exact own_one h.f
  · exact own_one h.o
  · exact own_one h.r
  · rfl
theorem ERead.cells {w : World} {m : En} {vV : Value} (h : ERead w m vV) : ∀ u ∈ EC m vV, u.oneCell' = true := by
  intro u hu
  simp only [EC, List.mem_cons, List.not_mem_nil, or_false] at hu
  rcases hu with rfl | rfl | rfl
  · rfl
  · exact own_one h
  · rfl
theorem infoMss : (Tryz.prog.info? 51).map (fun i => (i.zero, i.size, i.bytes)) = some (some (.agg #[.string ⟨#[]⟩, .slice none 0 0, .slice none 0 0, .slice none 0 0, .int .i64 0]), 5, 96) := by kernel_rfl
theorem infoEns : (Tryz.prog.info? 65).map (fun i => (i.zero, i.size, i.bytes)) = some (some (.agg #[.string ⟨#[]⟩, .slice none 0 0, .int .i64 0]), 3, 48) := by kernel_rfl
/-- A file under way: its block, and its rows. -/
structure FRow (w : World) (F : Nat) (f : Fl) (vM vE : Value) (xs ys : List Value) : Prop where
  box : w.heap[F]? = some (.cells #[vM, vE] 25 (0, 0))
  m : w.ownsRow (F + 1) 51 5 vM f.M.length xs
  ms : MsAre w f.M xs
  e : w.ownsRow (F + 1) 65 3 vE f.E.length ys
  es : EnAre w f.E ys
theorem FRow.lt {w : World} {F : Nat} {f : Fl} {vM vE : Value} {xs ys : List Value} (h : FRow w F f vM vE xs ys) : F < w.heap.size := (Array.getElem?_eq_some_iff.1 h.box).1
theorem FRow.kept {w w' : World} {F : Nat} {f : Fl} {vM vE : Value} {xs ys : List Value} (h : FRow w F f vM vE xs ys) (hk : ∀ k, F ≤ k → k < w.heap.size → w'.heap[k]? = w.heap[k]?) (hl : Leaf w w') : FRow w' F f vM vE xs ys :=
  ⟨(hk F (Nat.le_refl _) h.lt).trans h.box, own_kept (B := 0) (P := 0) h.m (fun k hk1 hk2 => hk k (by omega) hk2), h.ms.leaf hl, own_kept (B := 0) (P := 0) h.e (fun k hk1 hk2 => hk k (by omega) hk2), h.es.leaf hl⟩
theorem FRow.alloc {w : World} {F : Nat} {f : Fl} {vM vE : Value} {xs ys : List Value} (h : FRow w F f vM vE xs ys) (o : Obj) : FRow (w.alloc o) F f vM vE xs ys :=
  h.kept (fun k _ hk => Below.heap_alloc w o k hk) (Leaf.alloc w o)
theorem FRow.drew {w : World} {F : Nat} {f : Fl} {vM vE : Value} {xs ys : List Value} (h : FRow w F f vM vE xs ys) : FRow w.drew F f vM vE xs ys :=
  h.kept (fun _ _ _ => rfl) (fun _ _ _ _ _ => rfl)
theorem PSt.leaf {w w' : World} {P E : Nat} {s : S} (h : PSt w P E s) (hg : w.grownBy w' (some P)) : Leaf w w' := by
  obtain ⟨A, c, h1, _⟩ := h
  exact Leaf.grown hg h1 rfl
theorem FRow.taken {w w' : World} {P E F : Nat} {s : S} {f : Fl} {vM vE : Value} {xs ys : List Value} (h : FRow w F f vM vE xs ys) (hp : PSt w P E s) (hg : w.grownBy w' (some P)) (hP : P < F) : FRow w' F f vM vE xs ys :=
  h.kept (fun k hk1 hk2 => hg.block k hk2 (by simp; omega)) (hp.leaf hg)
theorem FRow.addM {w w' : World} {F : Nat} {f : Fl} {vM vE v : Value} {xs ys : List Value} {m : Ms} {vF vO vR : Value} (h : FRow w F f vM vE xs ys) (hm : MRead w m vF vO vR) (hg : w.grownBy w' vM.ownBlock) (hown : w'.ownsRow (F + 1) 51 5 v (f.M.length + 1) (xs ++ MC m vF vO vR)) :
    FRow (w'.setCell ⟨F, 0, none⟩ v) F { f with M := f.M ++ [m] } v vE (xs ++ MC m vF vO vR) ys := by
  have hb : w'.heap[F]? = _ := (hg.block F h.lt (fun e => by have := own_M h.m F e.symm; omega)).trans h.box
  have hl : Leaf w (w'.setCell ⟨F, 0, none⟩ v) := (Leaf.own h.m hg rfl).trans (Leaf.grown (grown_set w' F 0 v) hb rfl)
  refine ⟨?_, ?_, (h.ms.snoc hm).leaf hl, ?_, h.es.leaf hl⟩
  · have := heap_setCell_same hb (j := 0) v
    simpa using this
  · have := own_set hown (a := ⟨F, 0, none⟩) (by simp) v
    simpa using this
  · exact own_set (h.e.kept hg (own_apart h.e h.m (by decide))) (by simp) v
theorem FRow.addE {w w' : World} {F : Nat} {f : Fl} {vM vE v : Value} {xs ys : List Value} {m : En} {vV : Value} (h : FRow w F f vM vE xs ys) (hm : ERead w m vV) (hg : w.grownBy w' vE.ownBlock) (hown : w'.ownsRow (F + 1) 65 3 v (f.E.length + 1) (ys ++ EC m vV)) :
    FRow (w'.setCell ⟨F, 1, none⟩ v) F { f with E := f.E ++ [m] } vM v xs (ys ++ EC m vV) := by
  have hb : w'.heap[F]? = _ := (hg.block F h.lt (fun e => by have := own_M h.e F e.symm; omega)).trans h.box
  have hl : Leaf w (w'.setCell ⟨F, 1, none⟩ v) := (Leaf.own h.e hg rfl).trans (Leaf.grown (grown_set w' F 1 v) hb rfl)
  refine ⟨?_, ?_, h.ms.leaf hl, ?_, (h.es.snoc hm).leaf hl⟩
  · have := heap_setCell_same hb (j := 1) v
    simpa using this
  · exact own_set (h.m.kept hg (own_apart h.m h.e (by decide))) (by simp) v
  · have := own_set hown (a := ⟨F, 1, none⟩) (by simp) v
    simpa using this
/-- A file, as it is read. -/
def FRead (w : World) (f : Fl) (vM vE : Value) : Prop := ∃ xs ys, w.ownsRow 0 51 5 vM f.M.length xs ∧ MsAre w f.M xs ∧ w.ownsRow 0 65 3 vE f.E.length ys ∧ EnAre w f.E ys
theorem FRow.read {w : World} {F : Nat} {f : Fl} {vM vE : Value} {xs ys : List Value} (h : FRow w F f vM vE xs ys) : FRead w f vM vE := ⟨xs, ys, own_mono h.m (Nat.zero_le _), h.ms, own_mono h.e (Nat.zero_le _), h.es⟩
theorem FRead.on {w w' : World} {f : Fl} {vM vE : Value} (h : FRead w f vM vE) (hb : Below w.heap.size w w') : FRead w' f vM vE := by
  obtain ⟨xs, ys, h1, h2, h3, h4⟩ := h
  exact ⟨xs, ys, own_below h1 hb, h2.leaf (.below hb), own_below h3 hb, h4.leaf (.below hb)⟩
theorem FRead.nothing (w : World) : FRead w ⟨[], []⟩ (.slice none 0 0) (.slice none 0 0) := ⟨[], [], World.ownsRow_nil _ _ _ _, rfl, World.ownsRow_nil _ _ _ _, rfl⟩
theorem infoFl : (Tryz.prog.info? 25).map (·.size) = some 2 := by kernel_rfl
theorem wpList_store_fl {ops : Array Oper} {rest : List Oper} {o : Oper} {a : Act} {w : World} {Q : Exit → Act → World → Prop} (hgd : o.guard = none) (x y : Operand) (ho : o.op = .store 25 x y)
    (hd : o.dst = none) (g : Nat) (v0 v1 : Value) (u0 u1 : Value) (hx : a.eval x = .pointer (some ⟨g, 0, none⟩)) (hy : a.eval y = .agg #[v0, v1])
    (h0 : v0.oneCell' = true) (h1 : v1.oneCell' = true) (t : TypeId) (hg : w.heap[g]? = some (.cells #[u0, u1] t (0, 0)))
    (h : wpList Tryz.prog ops Q rest a (w.setRow g #[v0, v1])) : wpList Tryz.prog ops Q (o :: rest) a w :=
  wpList_store_rowTo hgd 25 x y ho hd g _ hx hy t _ hg infoFl rfl (by simp [h0, h1]) h
theorem wpList_load_fl {ops : Array Oper} {rest : List Oper} {o : Oper} {a : Act} {w : World} {Q : Exit → Act → World → Prop} (hgd : o.guard = none) (x : Operand) (ho : o.op = .load 25 x)
    (g : Nat) (u0 u1 : Value) (hx : a.eval x = .pointer (some ⟨g, 0, none⟩)) (t : TypeId) (fr : Nat × Nat) (hg : w.heap[g]? = some (.cells #[u0, u1] t fr))
    (h : wpList Tryz.prog ops Q rest (a.put o.dst (.agg #[u0, u1])) w) : wpList Tryz.prog ops Q (o :: rest) a w :=
  wpList_load_row hgd 25 x ho g hx t _ fr _ hg Tryz.underlying25 rfl infoFl h
theorem results_fl {fn : Func} {p : Tmp} (h : fn.results = #[.cell p 25]) (tmps : Array Value) (w : World) (g : Nat) (t : TypeId) (u0 u1 : Value) (fr : Nat × Nat)
    (hp : tmps.getD p undef = .pointer (some ⟨g, 0, none⟩)) (hg : w.heap[g]? = some (.cells #[u0, u1] t fr)) :
    (results fn tmps).run Tryz.prog w = .ok (.agg #[u0, u1]) w :=
  results_cell_row h tmps w g t _ fr _ hp hg Tryz.underlying25 rfl infoFl
theorem fileF_en (E : Nat) (s : S) (f : Fl) (h : s.goes = true) (h2 : s.sees 0 wEnum = true) : fileF E s f = fileF E (enumF E s).1 { f with E := f.E ++ [(enumF E s).2] } := by rw [fileF, dif_pos h, if_pos h2]
theorem fileF_ms (E : Nat) (s : S) (f : Fl) (h : s.goes = true) (h2 : ¬ s.sees 0 wEnum = true) : fileF E s f = fileF E (messageF E s).1 { f with M := f.M ++ [(messageF E s).2] } := by rw [fileF, dif_pos h, if_neg h2]
def FlRel (P E F : Nat) (w : World) (X : S × Fl) (K : Nat) (wr : World) : Prop := ∃ s f vM vE xs ys, PSt wr P E s ∧ FRow wr F f vM vE xs ys ∧ Kp F P w wr ∧ fileF E s f = X ∧ f.M.length + f.E.length + s.mu ≤ K
def FlPost (P E : Nat) (w : World) (X : S × Fl) (e : Ending) (w' : World) : Prop := ∃ vM vE, e = .returned (.agg #[vM, vE]) ∧ FRead w' X.2 vM vE ∧ PSt w' P E X.1 ∧ w.grownBy w' (some P)
end Go.Proofs.YtciiemomfniecaaGreatDoor
