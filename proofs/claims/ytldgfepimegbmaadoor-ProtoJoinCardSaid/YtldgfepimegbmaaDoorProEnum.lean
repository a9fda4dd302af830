/-
  An enum is read: the contract.
-/
import Derived.Test.YtldgfepimegbmaaDoorProMess
namespace Go.Proofs.YtldgfepimegbmaaDoor
set_option maxRecDepth 100000
open Go.RowKit

def VC (v : Vl) : List Value := [.string (txt v.name), .int .i64 v.n, .int .i64 v.at_]
def vlv (l : List Vl) : List Value := l.flatMap VC
theorem vlv_append (a b : List Vl) : vlv (a ++ b) = vlv a ++ vlv b := by simp [vlv]
theorem vlv_one (d : Vl) : vlv [d] = VC d := by simp [vlv]
theorem vlv_cells (l : List Vl) : ∀ u ∈ vlv l, u.oneCell' = true := by
  intro u hu
  obtain ⟨r, _, hr⟩ := List.mem_flatMap.1 hu
  simp only [VC, List.mem_cons, List.not_mem_nil, or_false] at hr
  rcases hr with rfl | rfl | rfl <;> rfl
theorem infoVls : (Tryd.prog.info? 83).map (fun i => (i.zero, i.size, i.bytes)) = some (some (.agg #[.string ⟨#[]⟩, .int .i64 0, .int .i64 0]), 3, 32) := by kernel_rfl
/-- An enum under way: its block, and its row. -/
structure ERow (w : World) (M : Nat) (e : En) (vV : Value) : Prop where
  box : w.heap[M]? = some (.cells #[.string (txt e.name), vV, .int .i64 e.at_] 58 (0, 0))
  v : w.ownsRow (M + 1) 83 3 vV e.V.length (vlv e.V)
theorem ERow.lt {w : World} {M : Nat} {e : En} {vV : Value} (h : ERow w M e vV) : M < w.heap.size := (Array.getElem?_eq_some_iff.1 h.box).1
theorem ERow.kept {w w' : World} {M : Nat} {e : En} {vV : Value} (h : ERow w M e vV) (hk : ∀ k, M ≤ k → k < w.heap.size → w'.heap[k]? = w.heap[k]?) : ERow w' M e vV :=
  ⟨(hk M (Nat.le_refl _) h.lt).trans h.box, own_kept (B := 0) (P := 0) h.v (fun k hk1 hk2 => hk k (by omega) hk2)⟩
theorem ERow.taken {w w' : World} {P M : Nat} {e : En} {vV : Value} (h : ERow w M e vV) (hg : w.grownBy w' (some P)) (hP : P < M) : ERow w' M e vV :=
  h.kept fun k hk1 hk2 => hg.block k hk2 (by simp; omega)
theorem ERow.alloc {w : World} {M : Nat} {e : En} {vV : Value} (h : ERow w M e vV) (o : Obj) : ERow (w.alloc o) M e vV :=
  h.kept fun k _ hk2 => Below.heap_alloc w o k hk2
theorem ERow.far {w w' : World} {P M : Nat} {e : En} {vV : Value} (h : ERow w M e vV) (hk : Kp w.heap.size P w w') (hP : P < M) : ERow w' M e vV :=
  h.kept fun k hk1 hk2 => hk.block k hk2 (by omega)
theorem ERow.add {w w' : World} {M : Nat} {e : En} {vV v : Value} {d : Vl} (h : ERow w M e vV) (hg : w.grownBy w' vV.ownBlock) (hown : w'.ownsRow (M + 1) 83 3 v (e.V.length + 1) (vlv e.V ++ VC d)) :
    ERow (w'.setCell ⟨M, 1, none⟩ v) M { e with V := e.V ++ [d] } v := by
  have hb : w'.heap[M]? = _ := (hg.block M h.lt (fun e => by have := own_M h.v M e.symm; omega)).trans h.box
  refine ⟨?_, ?_⟩
  · have := heap_setCell_same hb (j := 1) v
    simpa using this
  · have := own_set hown (a := ⟨M, 1, none⟩) (by simp) v
    simpa [vlv_append, vlv_one] using this
def EnV (e : En) (vV : Value) : Value := .agg #[.string (txt e.name), vV, .int .i64 e.at_]
theorem infoEn : (Tryd.prog.info? 58).map (·.size) = some 3 := by kernel_rfl
theorem infoVl : (Tryd.prog.info? 83).map (·.size) = some 3 := by kernel_rfl
theorem wpList_store_en {ops : Array Oper} {rest : List Oper} {o : Oper} {a : Act} {w : World} {Q : Exit → Act → World → Prop} (hgd : o.guard = none) (x y : Operand) (ho : o.op = .store 58 x y)
    (hd : o.dst = none) (g : Nat) (b0 : ByteArray) (v1 : Value) (b2 : Int) (u0 u1 u2 : Value) (hx : a.eval x = .pointer (some ⟨g, 0, none⟩)) (hy : a.eval y = .agg #[.string b0, v1, .int .i64 b2])
    (h1 : v1.oneCell' = true) (t : TypeId) (hg : w.heap[g]? = some (.cells #[u0, u1, u2] t (0, 0)))
    (h : wpList Tryd.prog ops Q rest a (w.setRow g #[.string b0, v1, .int .i64 b2])) : wpList Tryd.prog ops Q (o :: rest) a w :=
  wpList_store_rowTo hgd 58 x y ho hd g _ hx hy t _ hg infoEn rfl (by simp [h1]; simp [Value.oneCell']) h
theorem wpList_load_en {ops : Array Oper} {rest : List Oper} {o : Oper} {a : Act} {w : World} {Q : Exit → Act → World → Prop} (hgd : o.guard = none) (x : Operand) (ho : o.op = .load 58 x)
    (g : Nat) (u0 u1 u2 : Value) (hx : a.eval x = .pointer (some ⟨g, 0, none⟩)) (t : TypeId) (fr : Nat × Nat) (hg : w.heap[g]? = some (.cells #[u0, u1, u2] t fr))
    (h : wpList Tryd.prog ops Q rest (a.put o.dst (.agg #[u0, u1, u2])) w) : wpList Tryd.prog ops Q (o :: rest) a w :=
  wpList_load_row hgd 58 x ho g hx t _ fr _ hg Tryd.underlying58 rfl infoEn h
theorem results_en {fn : Func} {p : Tmp} (h : fn.results = #[.cell p 58]) (tmps : Array Value) (w : World) (g : Nat) (t : TypeId) (u0 u1 u2 : Value) (fr : Nat × Nat)
    (hp : tmps.getD p undef = .pointer (some ⟨g, 0, none⟩)) (hg : w.heap[g]? = some (.cells #[u0, u1, u2] t fr)) :
    (results fn tmps).run Tryd.prog w = .ok (.agg #[u0, u1, u2]) w :=
  results_cell_row h tmps w g t _ fr _ hp hg Tryd.underlying58 rfl infoEn
theorem valsF_in (E : Nat) (s : S) (e : En) (h : s.inside = true) : valsF E s e = valsF E s.nbd { e with V := e.V ++ [⟨s.nameT, s.nbdNo, s.place E⟩] } := by rw [valsF, dif_pos h]
def VlRel (P E M : Nat) (w : World) (X : S × En) (K : Nat) (wr : World) : Prop := ∃ s e vV, PSt wr P E s ∧ ERow wr M e vV ∧ Kp M P w wr ∧ valsF E s e = X ∧ e.V.length + s.mu ≤ K
def ERead (w : World) (e : En) (vV : Value) : Prop := w.ownsRow 0 83 3 vV e.V.length (vlv e.V)
def EnPost (P E : Nat) (w : World) (X : S × En) (e : Ending) (w' : World) : Prop := ∃ vV, e = .returned (EnV X.2 vV) ∧ ERead w' X.2 vV ∧ PSt w' P E X.1 ∧ w.grownBy w' (some P)
/-- A row of one type stays while a block of another type is written. -/
theorem own_other {w w' : World} {b : Nat} {e : TypeId} {size : Nat} {v : Value} {n : Nat} {xs : List Value} (hr : w.ownsRow b e size v n xs) {g : Nat} {cs : Array Value} {t : TypeId} {fr : Nat × Nat} (hg : w.grownBy w' (some g)) (ho : w.heap[g]? = some (.cells cs t fr)) (ht : t ≠ e) : w'.ownsRow b e size v n xs := by
  refine hr.kept hg ?_
  rcases hr.2 with ⟨rfl, _⟩ | ⟨g', cap, cur, rfl, _, h2, _⟩
  · exact .inl rfl
  · right
    simp only [Value.ownBlock, ne_eq, Option.some.injEq]
    rintro rfl
    rw [h2] at ho
    simp only [Option.some.injEq, Obj.cells.injEq] at ho
    exact ht ho.2.1.symm
theorem heap_new_set0 (w : World) (a b : Addr) (u v : Value) (o : Obj) : (((w.setCell a u).setCell b v).alloc o).heap[w.heap.size]? = some o := by
  have := heap_alloc_new ((w.setCell a u).setCell b v) o
  simpa [World.setCell] using this
theorem new_enum (w : World) (name : ByteArray) (e : En) (hn : name = txt e.name) (h0 : e.V = []) {M : Nat} (hb : w.heap[M]? = some (.cells #[.string name, .slice none 0 0, .int .i64 e.at_] 58 (0, 0))) : ERow w M e (.slice none 0 0) :=
  ⟨by rw [← hn]; exact hb, by rw [h0]; exact World.ownsRow_nil _ _ _ _⟩

set_option maxHeartbeats 2000000 in
theorem enum_any (P E : Nat) (s : S) (w : World) (hp : PSt w P E s) (hst : s.st = false) (hn : s.mu ≤ 50000) :
    Calls Tryd.prog 23 #[.pointer (some ⟨P, 0, none⟩)] w (EnPost P E w (enumF E s)) := by
  obtain ⟨j0, hj, hy0, hy1, hy2⟩ := info_parts infoVls
  have hPl := hp.lt
  have hmu1 := enS_mu s hst
  have H0 := Lib.hid (fun s w h => place_any P E s w h)
  have H1 := Lib.hid (fun w h => word_any7 P E s ⟨#[101, 110, 117, 109]⟩ w h)
  have H2 := Lib.hid (fun w h => name_any7 P E (s.word wEnum) w h)
  have H3 := Lib.hid (fun w h => sign_any7 P E (s.word wEnum).name ⟨#[123]⟩ w h)
  have HS : Hid (enumF E s = ((valsF E (enS s) (enE E s)).1.sign [125], (valsF E (enS s) (enE E s)).2)) := Lib.hid rfl
  have HMM : Hid (enE E s = ⟨(s.word wEnum).nameT, [], s.place E⟩) := Lib.hid rfl
  have HMU := Lib.hid hmu1
  have HP := Lib.hid hp
  clear hp hst hmu1
  go_enter Tryd.func23, Tryd.ntmps23
  go_wp2_with fail
  refine (H0.out _ _ (HP.out.alloc _)).mono ?_
  rintro e w0 ⟨rfl, rfl⟩
  go_wp2_with fail
  refine (H1.out _ ((HP.out.alloc _).alloc _)).mono ?_
  rintro e w1 ⟨rfl, hp1, hg1⟩
  have hs1 := hg1.size
  simp at hs1
  have HK1 := Lib.hid ((((Kp.refl w.heap.size P w).alloc (Nat.le_refl _) _).alloc (by simp) _).taken hg1 (by simp; omega))
  have HR1 := Lib.hid (stays (heap_first w _ _ rfl) hg1 hPl)
  have HB1 := Lib.hid (stays (heap_second w _ _) hg1 (by omega))
  clear hg1
  go_wp2_with fail
  refine (H2.out w1 hp1).mono ?_
  rintro e w2 ⟨rfl, hp2, hg2⟩
  have hs2 := hg2.size
  have HK2 := Lib.hid (HK1.out.taken hg2 (by omega))
  have HR2 := Lib.hid (stays HR1.out hg2 hPl)
  have HB2 := Lib.hid (stays HB1.out hg2 (by omega))
  have c0 := heap_cell HB2.out 0
  have f0 := heap_free HB2.out 0
  simp at c0
  clear hg2 HK1 HR1 HB1
  go_wp2_with fail
  refine (H3.out _ (hp2.setCell (by simp; omega) _)).mono ?_
  rintro e w3 ⟨rfl, hp3, hg3⟩
  have hs3 := hg3.size
  simp [World.setCell] at hs3
  have HK3 := Lib.hid ((HK2.out.setCell (by simp) _).taken hg3 (by simp [World.setCell]; omega))
  have HR3 := Lib.hid (stays ((Below.heap_setCell w2 _ _ _ (by simp)).trans HR2.out) hg3 hPl)
  have hb3 := stays (heap_setCell_same HB2.out _) hg3 (by omega)
  simp at hb3
  have HM3 : Hid (ERow w3 (w.heap.size + 1) (enE E s) (.slice none 0 0)) := Lib.hid (new_enum w3 _ _ (by rw [HMM.out]) rfl (by rw [hb3, HMM.out]))
  have HP3 : Hid (PSt w3 P E (enS s)) := Lib.hid hp3
  clear hg3 HK2 HR2 HB2 c0 f0 hb3 hp3
  generalize hX : valsF E (enS s) (enE E s) = X at *
  have HX := Lib.hid hX
  clear hX
  go_wp2
  go_loopw [4] (fun _ wr => VlRel P E (w.heap.size + 1) w3 X 50000 wr) (fun _ wr => muW wr P)
  case atStart => exact ⟨enS s, enE E s, _, HP3.out, HM3.out, Kp.refl _ _ _, HX.out, by have := HMU.out; show 0 + _ ≤ _; omega⟩
  case round =>
    obtain ⟨s5, m5, vV, hp5, hm5, hk5, hx5, hw5⟩ := hrel
    have HX5 := Lib.hid hx5
    have HM5 := Lib.hid hm5
    have HK5 := Lib.hid hk5
    have HP5 := Lib.hid hp5
    have hmu5 := hp5.mu
    have hI := inside_any P E s5 _ hp5
    clear hx5 hm5 hk5 hp5
    cases hin : s5.inside
    · rw [hin] at hI
      have HI := Lib.hid hI
      have HE : Hid (X = (s5, m5)) := Lib.hid (by rw [← HX5.out, valsF, dif_neg (by rw [hin]; decide)])
      clear hI hin
      have HMU5 := Lib.hid hmu5
      clear hmu5
      go_wp2_with fail
      refine HI.out.mono ?_
      rintro e w6 ⟨rfl, rfl⟩
      go_wp2_with fail
      refine (sign_any7 P E s5 ⟨#[125]⟩ _ HP5.out).mono ?_
      rintro e w7 ⟨rfl, hp7, hg7⟩
      have hsr := HK5.out.size
      have hr7 := HM5.out.taken hg7 (by omega)
      have hk7 := HK5.out.taken hg7 (by omega)
      have hR7 := (hk7.block w.heap.size (by omega) (by omega)).trans HR3.out
      have HR7 := Lib.hid hr7
      have HB7 := Lib.hid hr7.box
      have HK7 : Hid (Kp w.heap.size P w w7) := Lib.hid (HK3.out.trans (hk7.mono (by omega)))
      have HRR := Lib.hid hR7
      have g1 := own_one hr7.v
      clear hr7 hk7 hR7
      go_wp2_with (refine wpList_load_en rfl _ rfl (w.heap.size + 1) _ _ _ rfl _ _ HB7.out ?_; refine wpList_store_en rfl _ _ rfl rfl w.heap.size _ _ _ _ _ _ rfl rfl g1 _ HRR.out ?_)
      refine bodyPost_ret (results_en rfl _ _ w.heap.size _ _ _ _ (0, 0) rfl (setRow_heap _ _ _ _ _ _ HRR.out)) rfl ?_
      rw [HS.out, HE.out]
      have hgr : w7.grownBy (w7.setRow w.heap.size #[.string (txt m5.name), vV, .int .i64 m5.at_]) (some w.heap.size) := ⟨rfl, rfl, rfl, by simp, fun k _ hk => setRow_other _ _ _ _ (by simpa using hk)⟩
      exact ⟨vV, rfl, own_other (own_mono HR7.out.v (Nat.zero_le _)) hgr HRR.out (by decide), hp7.setRow (by omega) _, (HK7.out.setRow (Nat.le_refl _) _).out⟩
    · rw [hin] at hI
      have HI := Lib.hid hI
      have hst5 := S.inside_st hin
      have HN := Lib.hid (show valsF E s5.nbd { m5 with V := m5.V ++ [⟨s5.nameT, s5.nbdNo, s5.place E⟩] } = X by rw [← HX5.out, valsF_in E s5 m5 hin])
      have hmu6 := (S.nbd_mu s5).2 hst5
      have HC : Hid (VC ⟨s5.nameT, s5.nbdNo, s5.place E⟩ = [.string (txt s5.nameT), .int .i64 s5.nbdNo, .int .i64 (s5.place E)]) := Lib.hid rfl
      have HB := Lib.hid (fun w h => nbd_any7 P E s5 w h)
      have hsr := HK5.out.size
      clear hI hin hst5
      have HMU5 := Lib.hid hmu5
      clear hmu5
      go_wp2_with fail
      refine HI.out.mono ?_
      rintro e w6 ⟨rfl, rfl⟩
      go_wp2_with fail
      refine (H0.out _ _ HP5.out).mono ?_
      rintro e w6 ⟨rfl, rfl⟩
      go_wp2_with fail
      refine (HB.out _ (HP5.out.alloc _)).mono ?_
      rintro e w7 ⟨rfl, hp7, hg7⟩
      have hs7 := hg7.size
      simp at hs7
      have hM5 := HM5.out.lt
      have hb7 := stays (heap_alloc_new wr _) hg7 (by omega)
      have hk7 := ((Kp.refl wr.heap.size P wr).alloc (Nat.le_refl _) (.cells #[.string ⟨#[]⟩, .int .i64 0, .int .i64 (s5.place E)] 83)).taken hg7 (by simp)
      have HK7 := Lib.hid ((hk7.setCell (p := ⟨wr.heap.size, 0, none⟩) (Nat.le_refl _) (.string (txt s5.nameT))).setCell (p := ⟨wr.heap.size, 1, none⟩) (Nat.le_refl _) (.int .i64 s5.nbdNo))
      have hr7 := HM5.out.far hk7 (by omega)
      have c0 := heap_cell hb7 0
      have c1 := heap_cell hb7 1
      have c2 := heap_cell hb7 2
      have f0 := heap_free hb7 0
      have f1 := heap_free hb7 1
      simp at c0 c1 c2
      have cM := heap_cell hr7.box 1
      simp at cM
      have HR7 := Lib.hid ((HM5.out.far HK7.out (by omega)).alloc (.cells #[.string (txt s5.nameT), .int .i64 s5.nbdNo, .int .i64 (s5.place E)] 83))
      have hM7 := hr7.lt
      clear hb7 hr7 hk7 hg7
      go_wp2_with (at_builtin; refine wpList_append_lies _ rfl _ _ _ rfl (w.heap.size + 2) 83 j0 _ 3 32 Tryd.underlying56 hj hy0 hy1 hy2 rfl (by omega) vV m5.V.length (vlv m5.V) rfl HR7.out.v ⟨w7.heap.size, 0, none⟩ 1 1 (VC ⟨s5.nameT, s5.nbdNo, s5.place E⟩) rfl rfl (by rw [HC.out]; exact World.news_of_block (heap_new_set0 w7 _ _ _ _ _)) (by intro u hu; exact vlv_cells [_] u (by rw [vlv_one]; exact hu)) (by omega) (by unfold maxLen; omega) (by omega) (by simp [World.setCell]; omega) (w7.heap.size + 1) (by simp [World.setCell]) ?_; intro g8 cap8 w8 hown8 hg8 hat8 hlt8; have hb8 := (hg8.block _ HR7.out.lt (fun e => by have := own_M HR7.out.v _ e.symm; omega)).trans HR7.out.box; have c8 := heap_cell hb8 1; have f8 := heap_free hb8 1; simp at c8; have HB8 := Lib.hid hb8; clear hb8)
      have hp9 := (((hp7.setCell (a := ⟨wr.heap.size, 0, none⟩) (by simp; omega) (.string (txt s5.nameT))).setCell (a := ⟨wr.heap.size, 1, none⟩) (by simp; omega) (.int .i64 s5.nbdNo)).alloc _).past (v := .slice (some ⟨g8, 0, none⟩) (m5.V.length + 1) cap8) (by omega) HR7.out.v hg8 1
      refine ⟨⟨s5.nbd, _, _, hp9, HR7.out.add hg8 hown8, HK5.out.trans (((HK7.out.mono (by omega)).alloc (by simp [World.setCell]; omega) _).past (by simp [World.setCell]; omega) HR7.out.v hg8 1), HN.out, by simp; omega⟩, ?_⟩
      rw [hp9.mu, HMU5.out]
      omega
end Go.Proofs.YtldgfepimegbmaaDoor
