/-
  Messages, slots and values as arguments, with what their numbers and texts fit.
-/
import Derived.Test.YtjmcpfckcajnjaaTrOpen
import Derived.OpenShut
namespace Go.Proofs.Ytjmcpfckcajnjaa.T9
set_option maxRecDepth 100000

open Go.RowKit Go.ChangeShapes Go.WideShapes Go.ChangeAt

/-- A number of 64 bits. -/
def inI (n : Int) : Prop := -9223372036854775808 ≤ n ∧ n ≤ 9223372036854775807
/-- All numbers of a tree have 64 bits, all texts fit the form's memory. -/
inductive MIn : Mg → Prop
  | mk {m : Mg} (h1 : ∀ s ∈ m.F, inI s.no) (h2 : ∀ s ∈ m.F, ∀ v, v ∈ s.K ∨ v ∈ s.V → inI v.n ∧ v.s.length ≤ 140737488351232) (h3 : ∀ s ∈ m.F, ∀ v, v ∈ s.K ∨ v ∈ s.V → ∀ x ∈ v.M, MIn x) : MIn m
def VIn (v : Vl') : Prop := (inI v.n ∧ v.s.length ≤ 140737488351232) ∧ ∀ x ∈ v.M, MIn x
def SIn (s : So) : Prop := inI s.no ∧ ∀ v, v ∈ s.K ∨ v ∈ s.V → VIn v
theorem MIn.slot {m : Mg} (h : MIn m) {s : So} (hs : s ∈ m.F) : SIn s := by
  cases h with
  | mk h1 h2 h3 => exact ⟨h1 s hs, fun v hv => ⟨h2 s hs v hv, h3 s hs v hv⟩⟩
theorem MIn.of {m : Mg} (h : ∀ s ∈ m.F, SIn s) : MIn m := .mk (fun s hs => (h s hs).1) (fun s hs v hv => ((h s hs).2 v hv).1) fun s hs v hv => ((h s hs).2 v hv).2
theorem SIn.val {s : So} (h : SIn s) {v : Vl'} (hv : v ∈ s.K ∨ v ∈ s.V) : VIn v := h.2 v hv
theorem VIn.msg {v : Vl'} (h : VIn v) {x : Mg} (hx : x ∈ v.M) : MIn x := h.2 x hx
/-- What is so of each element, beside how it lies. -/
theorem LsAt.both {α : Type} {R : RP} {e : TypeId} {size : Nat} {C : α → List Value → Prop} {p : α → Prop} {l : List α} {u : Value} (h : LsAt R e size (fun a cs => C a cs ∧ p a) l u) : LsAt R e size C l u ∧ ∀ a ∈ l, p a := by
  obtain ⟨xs, h1, h2⟩ := h
  refine ⟨⟨xs, h1, h2.imp fun a cs h => h.1⟩, ?_⟩
  clear h1
  induction l generalizing xs with
  | nil => intro a ha; cases ha
  | cons y l ih =>
    obtain ⟨cs, ys, h3, h4, h5⟩ := h2
    intro a ha
    rcases List.mem_cons.1 ha with rfl | ha
    · exact h4.2
    · exact ih ys h5 a ha

section

variable {H : Type} {enc : TypeId × Value → H} {W : World} {n : Nat}

theorem ti_string {v : Value} {y : DataW H × List MemPlace} (h : DataW.trod enc Try.prog W 0 (fun _ => true) true n 9 [v] = some y) (hz : Szd 9 y.1) : ∃ x : List UInt8, v = .string (tx x) ∧ x.length ≤ 140737488351232 := by
  obtain ⟨s, h1, h3, h2⟩ := DataW.trod_string Try.underlying9 h
  refine ⟨s.data.toList, by rw [tx_of]; simpa using h1, ?_⟩
  rw [h3] at hz
  exact hz _ (by simp [DataW.weights])
theorem ti_int {v : Value} {y : DataW H × List MemPlace} (h : DataW.trod enc Try.prog W 0 (fun _ => true) true n 3 [v] = some y) : ∃ k : Int, v = .int .i64 k ∧ inI k := by
  obtain ⟨k, h1, _, h2⟩ := DataW.trod_int Try.underlying3 h
  exact ⟨k, by simpa using h1, bounds_i64 h2⟩
theorem ti_int64 {v : Value} {y : DataW H × List MemPlace} (h : DataW.trod enc Try.prog W 0 (fun _ => true) true n 2 [v] = some y) : ∃ k : Int, v = .int .i64 k ∧ inI k := by
  obtain ⟨k, h1, _, h2⟩ := DataW.trod_int Try.underlying2 h
  exact ⟨k, by simpa using h1, bounds_i64 h2⟩
theorem open_valI {N : Nat} (ih : ∀ (n : Nat) (cs : List Value) (y : DataW H × List MemPlace), cs.length = 1 → DataW.trod enc Try.prog W 0 (fun _ => true) true n 24 cs = some y → SizeOf.sizeOf y.1 < N → Szd 24 y.1 → ∃ m, MAt (Rd W.heap.size W) N m cs ∧ MIn m)
    {cs : List Value} {y : DataW H × List MemPlace} (hl : cs.length = 3) (h : DataW.trod enc Try.prog W 0 (fun _ => true) true n 30 cs = some y) (hy : SizeOf.sizeOf y.1 < N + 2) (hz : Szd 30 y.1) : ∃ v, VAt (Rd W.heap.size W) N v cs ∧ VIn v := by
  obtain ⟨xs, k, -, hx0, -, hxl, hg⟩ := DataW.trod_struct Try.underlying30 h
  obtain ⟨x0, x1, x2, rfl⟩ := tr_list3 (show xs.length = 3 from hxl)
  obtain ⟨v0, v1, v2, rfl⟩ := tr_list3 hl
  have g0 : DataW.trod enc Try.prog W 0 (fun _ => true) true k 2 (List.take (Try.prog.cellsOf 2) [v0, v1, v2]) = some x0 := hg 0 _ rfl
  have g1 : DataW.trod enc Try.prog W 0 (fun _ => true) true k 9 (List.take (Try.prog.cellsOf 9) [v1, v2]) = some x1 := hg 1 _ rfl
  have g2 : DataW.trod enc Try.prog W 0 (fun _ => true) true k 28 (List.take (Try.prog.cellsOf 28) [v2]) = some x2 := hg 2 _ rfl
  rw [kt_int64] at g0
  rw [kt_string] at g1
  rw [kt_msgs] at g2
  subst hx0
  obtain ⟨a0, rfl, b0⟩ := ti_int64 g0
  obtain ⟨a1, rfl, b1⟩ := ti_string g1 (hz.struct Try.underlying30 1 rfl rfl)
  have hz2 : Szd 28 x2.1 := hz.struct Try.underlying30 2 rfl rfl
  have hlt : SizeOf.sizeOf x2.1 < _ := sz_part (parts := [x0.1, x1.1, x2.1]) (by simp : x2.1 ∈ _)
  obtain ⟨M, hM⟩ := open_lesser Try.underlying28 kt_msg (by decide) kb_msg (fun m cs => MAt (Rd W.heap.size W) N m cs ∧ MIn m) (fun n cs y hl h hy hz => ih n cs y hl h (by simp only [List.map_cons, List.map_nil] at *; omega) hz) (show DataW.trod enc Try.prog W 0 (fun _ => true) true k 28 [v2] = some x2 from g2) hz2
  obtain ⟨hM1, hM2⟩ := hM.both
  exact ⟨⟨a0, a1, M⟩, ⟨v2, rfl, hM1⟩, ⟨b0, b1⟩, hM2⟩
theorem open_slotI {N : Nat} (ih : ∀ (n : Nat) (cs : List Value) (y : DataW H × List MemPlace), cs.length = 1 → DataW.trod enc Try.prog W 0 (fun _ => true) true n 24 cs = some y → SizeOf.sizeOf y.1 < N → Szd 24 y.1 → ∃ m, MAt (Rd W.heap.size W) N m cs ∧ MIn m)
    {cs : List Value} {y : DataW H × List MemPlace} (hl : cs.length = 3) (h : DataW.trod enc Try.prog W 0 (fun _ => true) true n 27 cs = some y) (hy : SizeOf.sizeOf y.1 < N + 3) (hz : Szd 27 y.1) : ∃ s, SAt' (Rd W.heap.size W) N s cs ∧ SIn s := by
  obtain ⟨xs, k, -, hx0, -, hxl, hg⟩ := DataW.trod_struct Try.underlying27 h
  obtain ⟨x0, x1, x2, rfl⟩ := tr_list3 (show xs.length = 3 from hxl)
  obtain ⟨v0, v1, v2, rfl⟩ := tr_list3 hl
  have g0 : DataW.trod enc Try.prog W 0 (fun _ => true) true k 3 (List.take (Try.prog.cellsOf 3) [v0, v1, v2]) = some x0 := hg 0 _ rfl
  have g1 : DataW.trod enc Try.prog W 0 (fun _ => true) true k 25 (List.take (Try.prog.cellsOf 25) [v1, v2]) = some x1 := hg 1 _ rfl
  have g2 : DataW.trod enc Try.prog W 0 (fun _ => true) true k 25 (List.take (Try.prog.cellsOf 25) [v2]) = some x2 := hg 2 _ rfl
  rw [kt_int] at g0
  rw [kt_vals] at g1 g2
  obtain ⟨a0, rfl, b0⟩ := ti_int g0
  subst hx0
  have hz1 : Szd 25 x1.1 := hz.struct Try.underlying27 1 rfl rfl
  have hz2 : Szd 25 x2.1 := hz.struct Try.underlying27 2 rfl rfl
  have hlt1 : SizeOf.sizeOf x1.1 < _ := sz_part (parts := [x0.1, x1.1, x2.1]) (by simp : x1.1 ∈ _)
  have hlt2 : SizeOf.sizeOf x2.1 < _ := sz_part (parts := [x0.1, x1.1, x2.1]) (by simp : x2.1 ∈ _)
  obtain ⟨K, hK⟩ := open_lesser Try.underlying25 kt_val (by decide) kb_val (fun m cs => VAt (Rd W.heap.size W) N m cs ∧ VIn m) (fun n cs y hl h hy hz => open_valI ih hl h (by simp only [List.map_cons, List.map_nil] at *; omega) hz) (show DataW.trod enc Try.prog W 0 (fun _ => true) true k 25 [v1] = some x1 from g1) hz1
  obtain ⟨V, hV⟩ := open_lesser Try.underlying25 kt_val (by decide) kb_val (fun m cs => VAt (Rd W.heap.size W) N m cs ∧ VIn m) (fun n cs y hl h hy hz => open_valI ih hl h (by simp only [List.map_cons, List.map_nil] at *; omega) hz) (show DataW.trod enc Try.prog W 0 (fun _ => true) true k 25 [v2] = some x2 from g2) hz2
  obtain ⟨hK1, hK2⟩ := hK.both
  obtain ⟨hV1, hV2⟩ := hV.both
  exact ⟨⟨a0, K, V⟩, ⟨v1, v2, rfl, hK1, hV1⟩, b0, fun v hv => hv.elim (hK2 v) (hV2 v)⟩
theorem open_msg0I : ∀ (N n : Nat) (cs : List Value) (y : DataW H × List MemPlace), cs.length = 1 → DataW.trod enc Try.prog W 0 (fun _ => true) true n 24 cs = some y → SizeOf.sizeOf y.1 < N → Szd 24 y.1 → ∃ m, MAt (Rd W.heap.size W) N m cs ∧ MIn m
  | 0, _, _, _, _, _, h, _ => by omega
  | N + 1, n, cs, y, hl, h, hy, hz => by
    obtain ⟨xs, k, -, hx0, -, hxl, hg⟩ := DataW.trod_struct Try.underlying24 h
    obtain ⟨x0, rfl⟩ := tr_list1 (show xs.length = 1 from hxl)
    obtain ⟨v0, rfl⟩ := tr_list1 hl
    have g0 : DataW.trod enc Try.prog W 0 (fun _ => true) true k 22 (List.take (Try.prog.cellsOf 22) [v0]) = some x0 := hg 0 _ rfl
    rw [kt_slots] at g0
    subst hx0
    have hz1 : Szd 22 x0.1 := hz.struct Try.underlying24 0 rfl rfl
    have hlt1 : SizeOf.sizeOf x0.1 < _ := sz_part (parts := [x0.1]) (by simp : x0.1 ∈ _)
    obtain ⟨F, hF⟩ := open_lesser Try.underlying22 kt_slot (by decide) kb_slot (fun m cs => SAt' (Rd W.heap.size W) N m cs ∧ SIn m) (fun n cs y hl h hy hz => open_slotI (open_msg0I N) hl h (by simp only [List.map_cons, List.map_nil] at *; omega) hz) (show DataW.trod enc Try.prog W 0 (fun _ => true) true k 22 [v0] = some x0 from g0) hz1
    obtain ⟨hF1, hF2⟩ := hF.both
    exact ⟨.mk F, ⟨v0, rfl, hF1⟩, .of hF2⟩
/-- A message that comes in. -/
theorem open_msgI {base : Nat} {v : Value} {d : DataW H} {ps : List MemPlace}
    (hval : Value.okWide Try.prog W .any base 24 v) (h : DataW.Trod enc Try.prog W 0 (fun _ => true) true 24 v d ps) (hz : Szd 24 d) :
    ∃ (m : Mg) (u : Value) (k : Nat), v = .agg #[u] ∧ MRd W.heap.size W k m u ∧ MIn m := by
  obtain ⟨cs, rfl, hsz⟩ := okWide_struct Try.underlying24 hval
  obtain ⟨l⟩ := cs
  obtain ⟨fuel, hf⟩ := h
  obtain ⟨xs, k, -, -, hlen, hxl, hg⟩ := DataW.trod_struct Try.underlying24 hf
  have hl1 : l.length = 1 := by rw [kt_msg] at hlen; simpa [Value.cells] using hlen
  obtain ⟨u, rfl⟩ := tr_list1 hl1
  obtain ⟨m, hm, hi⟩ := open_msg0I (SizeOf.sizeOf d + 1) fuel [u] (d, ps) rfl (by simpa [Value.cells] using hf) (Nat.lt_succ_self _) hz
  exact ⟨m, u, _, rfl, hm, hi⟩
/-- A slot that comes in. -/
theorem open_slI {base : Nat} {v : Value} {d : DataW H} {ps : List MemPlace}
    (hval : Value.okWide Try.prog W .any base 27 v) (h : DataW.Trod enc Try.prog W 0 (fun _ => true) true 27 v d ps) (hz : Szd 27 d) :
    ∃ (s : So) (u1 u2 : Value) (k : Nat), v = .agg #[.int .i64 s.no, u1, u2] ∧ SAt' (Rd W.heap.size W) k s [.int .i64 s.no, u1, u2] ∧ SIn s := by
  obtain ⟨cs, rfl, hsz⟩ := okWide_struct Try.underlying27 hval
  obtain ⟨l⟩ := cs
  obtain ⟨fuel, hf⟩ := h
  obtain ⟨xs, k, -, -, hlen, hxl, hg⟩ := DataW.trod_struct Try.underlying27 hf
  have hl1 : l.length = 3 := by rw [kt_slot] at hlen; simpa [Value.cells] using hlen
  obtain ⟨s, hs, hi⟩ := open_slotI (open_msg0I (SizeOf.sizeOf d + 1)) (y := (d, ps)) hl1 (by simpa [Value.cells] using hf) (show SizeOf.sizeOf d < _ by omega) hz
  obtain ⟨u1, u2, rfl, h2⟩ := id hs
  exact ⟨s, u1, u2, _, rfl, hs, hi⟩
/-- A value that comes in. -/
theorem open_vaI {base : Nat} {v : Value} {d : DataW H} {ps : List MemPlace}
    (hval : Value.okWide Try.prog W .any base 30 v) (h : DataW.Trod enc Try.prog W 0 (fun _ => true) true 30 v d ps) (hz : Szd 30 d) :
    ∃ (s : Vl') (u : Value) (k : Nat), v = .agg #[.int .i64 s.n, .string (tx s.s), u] ∧ VAt (Rd W.heap.size W) k s [.int .i64 s.n, .string (tx s.s), u] ∧ VIn s := by
  obtain ⟨cs, rfl, hsz⟩ := okWide_struct Try.underlying30 hval
  obtain ⟨l⟩ := cs
  obtain ⟨fuel, hf⟩ := h
  obtain ⟨xs, k, -, -, hlen, hxl, hg⟩ := DataW.trod_struct Try.underlying30 hf
  have hl1 : l.length = 3 := by rw [kt_val] at hlen; simpa [Value.cells] using hlen
  obtain ⟨s, hs, hi⟩ := open_valI (open_msg0I (SizeOf.sizeOf d + 1)) (y := (d, ps)) hl1 (by simpa [Value.cells] using hf) (show SizeOf.sizeOf d < _ by omega) hz
  obtain ⟨u, rfl, h2⟩ := id hs
  exact ⟨s, u, _, rfl, hs, hi⟩
end

end Go.Proofs.Ytjmcpfckcajnjaa.T9
