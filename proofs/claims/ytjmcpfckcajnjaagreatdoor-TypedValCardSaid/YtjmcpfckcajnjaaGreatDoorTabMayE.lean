/-
  Messages, slots and values as arguments, with what their numbers and texts fit.
-/
import Derived.Test.YtjmcpfckcajnjaaGreatDoorTrOpen
import Derived.OpenShut
import Derived.Deep.RegionHeld3
import Derived.BigQuiet
namespace Go.Proofs.YtjmcpfckcajnjaaGreatDoor.T9
set_option maxRecDepth 100000

open Go.RowKit Go.ChangeShapes Go.WideShapes Go.ChangeAt

/-- A number of 64 bits. -/
def inI (n : Int) : Prop := -9223372036854775808 ≤ n ∧ n ≤ 9223372036854775807
/-- All numbers of a tree have 64 bits, all texts fit the form's memory. -/
inductive MIn : Mg → Prop
  | mk {m : Mg} (h1 : ∀ s ∈ m.F, inI s.no) (h2 : ∀ s ∈ m.F, ∀ v, v ∈ s.K ∨ v ∈ s.V → inI v.n ∧ v.s.length ≤ 140737488351232) (h3 : ∀ s ∈ m.F, ∀ v, v ∈ s.K ∨ v ∈ s.V → ∀ x ∈ v.M, MIn x) : MIn m
def VIn (v : Vl') : Prop := (inI v.n ∧ v.s.length ≤ 140737488351232) ∧ ∀ x ∈ v.M, MIn x
def SIn (s : So) : Prop := inI s.no ∧ ∀ v, v ∈ s.K ∨ v ∈ s.V → VIn v
theorem MIn.slot {m : Mg} (h : MIn m) {s : So} (hs : s ∈ m.F) : SIn s := by
  cases h with
  | mk h1 h2 h3 => exact ⟨h1 s hs, fun v hv => ⟨h2 s hs v hv, h3 s hs v hv⟩⟩
theorem MIn.of {m : Mg} (h : ∀ s ∈ m.F, SIn s) : MIn m := .mk (fun s hs => (h s hs).1) (fun s hs v hv => ((h s hs).2 v hv).1) fun s hs v hv => ((h s hs).2 v hv).2
theorem SIn.val {s : So} (h : SIn s) {v : Vl'} (hv : v ∈ s.K ∨ v ∈ s.V) : VIn v := h.2 v hv
theorem VIn.msg {v : Vl'} (h : VIn v) {x : Mg} (hx : x ∈ v.M) : MIn x := h.2 x hx
/-- What is so of each element, beside how it lies. -/
theorem LsAt.both {α : Type} {R : RP} {e : TypeId} {size : Nat} {C : α → List Value → Prop} {p : α → Prop} {l : List α} {u : Value} (h : LsAt R e size (fun a cs => C a cs ∧ p a) l u) : LsAt R e size C l u ∧ ∀ a ∈ l, p a := by
  obtain ⟨xs, h1, h2⟩ := h
  refine ⟨⟨xs, h1, h2.imp fun a cs h => h.1⟩, ?_⟩
  clear h1
  induction l generalizing xs with
  | nil => intro a ha; cases ha
  | cons y l ih =>
    obtain ⟨cs, ys, h3, h4, h5⟩ := h2
    intro a ha
    rcases List.mem_cons.1 ha with rfl | ha
    · exact h4.2
    · exact ih ys h5 a ha

section

variable {H : Type} {enc : TypeId × Value → H} {W : World} {n : Nat}

theorem ti_string {v : Value} {y : DataW H × List MemPlace} (h : DataW.trod enc Tryz.prog W 0 (fun _ => true) true n 9 [v] = some y) (hz : Szd 9 y.1) : ∃ x : List UInt8, v = .string (tx x) ∧ x.length ≤ 140737488351232 := by
  obtain ⟨s, h1, h3, h2⟩ := DataW.trod_string Tryz.underlying9 h
  refine ⟨s.data.toList, by rw [tx_of]; simpa using h1, ?_⟩
  rw [h3] at hz
  exact hz _ (by simp [DataW.weights])
theorem ti_int {v : Value} {y : DataW H × List MemPlace} (h : DataW.trod enc Tryz.prog W 0 (fun _ => true) true n 3 [v] = some y) : ∃ k : Int, v = .int .i64 k ∧ inI k := by
  obtain ⟨k, h1, _, h2⟩ := DataW.trod_int Tryz.underlying3 h
  exact ⟨k, by simpa using h1, bounds_i64 h2⟩
theorem ti_int64 {v : Value} {y : DataW H × List MemPlace} (h : DataW.trod enc Tryz.prog W 0 (fun _ => true) true n 2 [v] = some y) : ∃ k : Int, v = .int .i64 k ∧ inI k := by
  obtain ⟨k, h1, _, h2⟩ := DataW.trod_int Tryz.underlying2 h
  exact ⟨k, by simpa using h1, bounds_i64 h2⟩
theorem open_valI {N : Nat} (ih : ∀ (n : Nat) (cs : List Value) (y : DataW H × List MemPlace), cs.length = 1 → DataW.trod enc Tryz.prog W 0 (fun _ => true) true n 28 cs = some y → SizeOf.sizeOf y.1 < N → Szd 28 y.1 → ∃ m, MAt (Rd W.heap.size W) N m cs ∧ MIn m)
    {cs : List Value} {y : DataW H × List MemPlace} (hl : cs.length = 3) (h : DataW.trod enc Tryz.prog W 0 (fun _ => true) true n 31 cs = some y) (hy : SizeOf.sizeOf y.1 < N + 2) (hz : Szd 31 y.1) : ∃ v, VAt (Rd W.heap.size W) N v cs ∧ VIn v := by
  obtain ⟨xs, k, -, hx0, -, hxl, hg⟩ := DataW.trod_struct Tryz.underlying31 h
  obtain ⟨x0, x1, x2, rfl⟩ := tr_list3 (show xs.length = 3 from hxl)
  obtain ⟨v0, v1, v2, rfl⟩ := tr_list3 hl
  have g0 : DataW.trod enc Tryz.prog W 0 (fun _ => true) true k 2 (List.take (Tryz.prog.cellsOf 2) [v0, v1, v2]) = some x0 := hg 0 _ rfl
  have g1 : DataW.trod enc Tryz.prog W 0 (fun _ => true) true k 9 (List.take (Tryz.prog.cellsOf 9) [v1, v2]) = some x1 := hg 1 _ rfl
  have g2 : DataW.trod enc Tryz.prog W 0 (fun _ => true) true k 29 (List.take (Tryz.prog.cellsOf 29) [v2]) = some x2 := hg 2 _ rfl
  rw [kt_int64] at g0
  rw [kt_string] at g1
  rw [kt_msgs] at g2
  subst hx0
  obtain ⟨a0, rfl, b0⟩ := ti_int64 g0
  obtain ⟨a1, rfl, b1⟩ := ti_string g1 (hz.struct Tryz.underlying31 1 rfl rfl)
  have hz2 : Szd 29 x2.1 := hz.struct Tryz.underlying31 2 rfl rfl
  have hlt : SizeOf.sizeOf x2.1 < _ := sz_part (parts := [x0.1, x1.1, x2.1]) (by simp : x2.1 ∈ _)
  obtain ⟨M, hM⟩ := open_lesser Tryz.underlying29 kt_msg (by decide) kb_msg (fun m cs => MAt (Rd W.heap.size W) N m cs ∧ MIn m) (fun n cs y hl h hy hz => ih n cs y hl h (by simp only [List.map_cons, List.map_nil] at *; omega) hz) (show DataW.trod enc Tryz.prog W 0 (fun _ => true) true k 29 [v2] = some x2 from g2) hz2
  obtain ⟨hM1, hM2⟩ := hM.both
  exact ⟨⟨a0, a1, M⟩, ⟨v2, rfl, hM1⟩, ⟨b0, b1⟩, hM2⟩
theorem open_slotI {N : Nat} (ih : ∀ (n : Nat) (cs : List Value) (y : DataW H × List MemPlace), cs.length = 1 → DataW.trod enc Tryz.prog W 0 (fun _ => true) true n 28 cs = some y → SizeOf.sizeOf y.1 < N → Szd 28 y.1 → ∃ m, MAt (Rd W.heap.size W) N m cs ∧ MIn m)
    {cs : List Value} {y : DataW H × List MemPlace} (hl : cs.length = 3) (h : DataW.trod enc Tryz.prog W 0 (fun _ => true) true n 36 cs = some y) (hy : SizeOf.sizeOf y.1 < N + 3) (hz : Szd 36 y.1) : ∃ s, SAt' (Rd W.heap.size W) N s cs ∧ SIn s := by
  obtain ⟨xs, k, -, hx0, -, hxl, hg⟩ := DataW.trod_struct Tryz.underlying36 h
  obtain ⟨x0, x1, x2, rfl⟩ := tr_list3 (show xs.length = 3 from hxl)
  obtain ⟨v0, v1, v2, rfl⟩ := tr_list3 hl
  have g0 : DataW.trod enc Tryz.prog W 0 (fun _ => true) true k 3 (List.take (Tryz.prog.cellsOf 3) [v0, v1, v2]) = some x0 := hg 0 _ rfl
  have g1 : DataW.trod enc Tryz.prog W 0 (fun _ => true) true k 34 (List.take (Tryz.prog.cellsOf 34) [v1, v2]) = some x1 := hg 1 _ rfl
  have g2 : DataW.trod enc Tryz.prog W 0 (fun _ => true) true k 34 (List.take (Tryz.prog.cellsOf 34) [v2]) = some x2 := hg 2 _ rfl
  rw [kt_int] at g0
  rw [kt_vals] at g1 g2
  obtain ⟨a0, rfl, b0⟩ := ti_int g0
  subst hx0
  have hz1 : Szd 34 x1.1 := hz.struct Tryz.underlying36 1 rfl rfl
  have hz2 : Szd 34 x2.1 := hz.struct Tryz.underlying36 2 rfl rfl
  have hlt1 : SizeOf.sizeOf x1.1 < _ := sz_part (parts := [x0.1, x1.1, x2.1]) (by simp : x1.1 ∈ _)
  have hlt2 : SizeOf.sizeOf x2.1 < _ := sz_part (parts := [x0.1, x1.1, x2.1]) (by simp : x2.1 ∈ _)
  obtain ⟨K, hK⟩ := open_lesser Tryz.underlying34 kt_val (by decide) kb_val (fun m cs => VAt (Rd W.heap.size W) N m cs ∧ VIn m) (fun n cs y hl h hy hz => open_valI ih hl h (by simp only [List.map_cons, List.map_nil] at *; omega) hz) (show DataW.trod enc Tryz.prog W 0 (fun _ => true) true k 34 [v1] = some x1 from g1) hz1
  obtain ⟨V, hV⟩ := open_lesser Tryz.underlying34 kt_val (by decide) kb_val (fun m cs => VAt (Rd W.heap.size W) N m cs ∧ VIn m) (fun n cs y hl h hy hz => open_valI ih hl h (by simp only [List.map_cons, List.map_nil] at *; omega) hz) (show DataW.trod enc Tryz.prog W 0 (fun _ => true) true k 34 [v2] = some x2 from g2) hz2
  obtain ⟨hK1, hK2⟩ := hK.both
  obtain ⟨hV1, hV2⟩ := hV.both
  exact ⟨⟨a0, K, V⟩, ⟨v1, v2, rfl, hK1, hV1⟩, b0, fun v hv => hv.elim (hK2 v) (hV2 v)⟩
theorem open_msg0I : ∀ (N n : Nat) (cs : List Value) (y : DataW H × List MemPlace), cs.length = 1 → DataW.trod enc Tryz.prog W 0 (fun _ => true) true n 28 cs = some y → SizeOf.sizeOf y.1 < N → Szd 28 y.1 → ∃ m, MAt (Rd W.heap.size W) N m cs ∧ MIn m
  | 0, _, _, _, _, _, h, _ => by omega
  | N + 1, n, cs, y, hl, h, hy, hz => by
    obtain ⟨xs, k, -, hx0, -, hxl, hg⟩ := DataW.trod_struct Tryz.underlying28 h
    obtain ⟨x0, rfl⟩ := tr_list1 (show xs.length = 1 from hxl)
    obtain ⟨v0, rfl⟩ := tr_list1 hl
    have g0 : DataW.trod enc Tryz.prog W 0 (fun _ => true) true k 26 (List.take (Tryz.prog.cellsOf 26) [v0]) = some x0 := hg 0 _ rfl
    rw [kt_slots] at g0
    subst hx0
    have hz1 : Szd 26 x0.1 := hz.struct Tryz.underlying28 0 rfl rfl
    have hlt1 : SizeOf.sizeOf x0.1 < _ := sz_part (parts := [x0.1]) (by simp : x0.1 ∈ _)
    obtain ⟨F, hF⟩ := open_lesser Tryz.underlying26 kt_slot (by decide) kb_slot (fun m cs => SAt' (Rd W.heap.size W) N m cs ∧ SIn m) (fun n cs y hl h hy hz => open_slotI (open_msg0I N) hl h (by simp only [List.map_cons, List.map_nil] at *; omega) hz) (show DataW.trod enc Tryz.prog W 0 (fun _ => true) true k 26 [v0] = some x0 from g0) hz1
    obtain ⟨hF1, hF2⟩ := hF.both
    exact ⟨.mk F, ⟨v0, rfl, hF1⟩, .of hF2⟩
/-- A message that comes in. -/
theorem open_msgI {base : Nat} {v : Value} {d : DataW H} {ps : List MemPlace}
    (hval : Value.okWide Tryz.prog W .any base 28 v) (h : DataW.Trod enc Tryz.prog W 0 (fun _ => true) true 28 v d ps) (hz : Szd 28 d) :
    ∃ (m : Mg) (u : Value) (k : Nat), v = .agg #[u] ∧ MRd W.heap.size W k m u ∧ MIn m := by
  obtain ⟨cs, rfl, hsz⟩ := okWide_struct Tryz.underlying28 hval
  obtain ⟨l⟩ := cs
  obtain ⟨fuel, hf⟩ := h
  obtain ⟨xs, k, -, -, hlen, hxl, hg⟩ := DataW.trod_struct Tryz.underlying28 hf
  have hl1 : l.length = 1 := by rw [kt_msg] at hlen; simpa [Value.cells] using hlen
  obtain ⟨u, rfl⟩ := tr_list1 hl1
  obtain ⟨m, hm, hi⟩ := open_msg0I (SizeOf.sizeOf d + 1) fuel [u] (d, ps) rfl (by simpa [Value.cells] using hf) (Nat.lt_succ_self _) hz
  exact ⟨m, u, _, rfl, hm, hi⟩
/-- A slot that comes in. -/
theorem open_slI {base : Nat} {v : Value} {d : DataW H} {ps : List MemPlace}
    (hval : Value.okWide Tryz.prog W .any base 36 v) (h : DataW.Trod enc Tryz.prog W 0 (fun _ => true) true 36 v d ps) (hz : Szd 36 d) :
    ∃ (s : So) (u1 u2 : Value) (k : Nat), v = .agg #[.int .i64 s.no, u1, u2] ∧ SAt' (Rd W.heap.size W) k s [.int .i64 s.no, u1, u2] ∧ SIn s := by
  obtain ⟨cs, rfl, hsz⟩ := okWide_struct Tryz.underlying36 hval
  obtain ⟨l⟩ := cs
  obtain ⟨fuel, hf⟩ := h
  obtain ⟨xs, k, -, -, hlen, hxl, hg⟩ := DataW.trod_struct Tryz.underlying36 hf
  have hl1 : l.length = 3 := by rw [kt_slot] at hlen; simpa [Value.cells] using hlen
  obtain ⟨s, hs, hi⟩ := open_slotI (open_msg0I (SizeOf.sizeOf d + 1)) (y := (d, ps)) hl1 (by simpa [Value.cells] using hf) (show SizeOf.sizeOf d < _ by omega) hz
  obtain ⟨u1, u2, rfl, h2⟩ := id hs
  exact ⟨s, u1, u2, _, rfl, hs, hi⟩
/-- A value that comes in. -/
theorem open_vaI {base : Nat} {v : Value} {d : DataW H} {ps : List MemPlace}
    (hval : Value.okWide Tryz.prog W .any base 31 v) (h : DataW.Trod enc Tryz.prog W 0 (fun _ => true) true 31 v d ps) (hz : Szd 31 d) :
    ∃ (s : Vl') (u : Value) (k : Nat), v = .agg #[.int .i64 s.n, .string (tx s.s), u] ∧ VAt (Rd W.heap.size W) k s [.int .i64 s.n, .string (tx s.s), u] ∧ VIn s := by
  obtain ⟨cs, rfl, hsz⟩ := okWide_struct Tryz.underlying31 hval
  obtain ⟨l⟩ := cs
  obtain ⟨fuel, hf⟩ := h
  obtain ⟨xs, k, -, -, hlen, hxl, hg⟩ := DataW.trod_struct Tryz.underlying31 hf
  have hl1 : l.length = 3 := by rw [kt_val] at hlen; simpa [Value.cells] using hlen
  obtain ⟨s, hs, hi⟩ := open_valI (open_msg0I (SizeOf.sizeOf d + 1)) (y := (d, ps)) hl1 (by simpa [Value.cells] using hf) (show SizeOf.sizeOf d < _ by omega) hz
  obtain ⟨u, rfl, h2⟩ := id hs
  exact ⟨s, u, _, rfl, hs, hi⟩
end

end Go.Proofs.YtjmcpfckcajnjaaGreatDoor.T9
/-
  How many values there are: value's Size, and the sums below it.
-/
namespace Go.Proofs.YtjmcpfckcajnjaaGreatDoor.T9
set_option maxRecDepth 100000

open Go.RowKit

/-- The premise: what is told of an element. -/
def togethermsgP (B d : Nat) (w : World) (l : List Mg) : Prop := ∀ a ∈ l, ∀ x wr, Below w.heap.size w wr → MAt (Rd B wr) d a [x] → Calls Tryz.prog 22 #[.agg #[x]] wr fun e w' => e = .returned (.int .i64 (Mg.size a : Nat)) ∧ Below wr.heap.size wr w'
set_option maxRecDepth 1000000 in
set_option maxHeartbeats 4000000 in
theorem together_msg (B d : Nat) (l : List Mg) (u : Value) (w : World) (hB : B ≤ w.heap.size) (hl : LsAt (Rd B w) 28 1 (MAt (Rd B w) d) l u) (hg : togethermsgP B d w l) (hsm : sm (l.map Mg.size) ≤ 1000000000000) :
    Calls Tryz.prog 129 #[u, .func (.func 22) #[] #[]] w fun e w' => e = .returned (.int .i64 (sm (l.map Mg.size) : Nat)) ∧ Below w.heap.size w w' := by
  obtain ⟨A, c, xs, rfl, hs, hb, hr, hn⟩ := hl.open_
  have HS := Lib.hid hs
  have HR := Lib.hid hr
  have HG := Lib.hid hg
  have HSM := Lib.hid hsm
  have HBB := Lib.hid hb
  clear hs hr hg hl hsm hb
  go_enter Tryz.func129, Tryz.ntmps129
  go_wp2
  go_loopw [5, 9] (fun n i wr => ∃ k : Nat, i = .int .i64 k ∧ k ≤ l.length ∧ n = .int .i64 (sm ((l.take k).map Mg.size) : Nat) ∧ Below w.heap.size w wr) (fun _ i _ => l.length - (intOf i).toNat)
  case atStart => exact ⟨0, rfl, by omega, rfl, Below.refl _ _⟩
  case round =>
    obtain ⟨k, rfl, hk, rfl, hbw⟩ := hrel
    by_cases hlt : k < l.length
    · obtain ⟨a, ha⟩ : ∃ a, l[k]? = some a := ⟨_, List.getElem?_eq_getElem hlt⟩
      obtain ⟨ad, x, rfl, hg, hc, c0⟩ := row1 MAt.len (sl_low HS.out HBB.out (Lo.below hbw hB)) (HR.out.imp fun a cs h => MRd.low (Lo.below hbw hB) h) ha
      have HC := Lib.hid (HG.out a (List.mem_of_getElem? ha) _ wr hbw hc)
      have HN := Lib.hid (sm_take_next Mg.size ha)
      have HB2 := Lib.hid hbw
      have hle : sm ((l.take (k + 1)).map Mg.size) ≤ 1000000000000 := Nat.le_trans (sm_take_le l (k + 1) Mg.size) HSM.out
      rw [HN.out] at hle
      obtain ⟨p, hp⟩ : ∃ p, sm ((l.take k).map Mg.size) = p := ⟨_, rfl⟩
      obtain ⟨q, hq⟩ : ∃ q, Mg.size a = q := ⟨_, rfl⟩
      rw [hp, hq] at hle
      rw [hp, hq] at HN
      rw [hp]
      rw [hq] at HC
      clear hc hbw ha hp hq
      go_wp2_with (go_at_call 22; refine HC.out.mono ?_; rintro e w1 ⟨rfl, hb1⟩)
      refine ⟨⟨k + 1, by go_num, by omega, ?_, HB2.out.trans (hb1.mono HB2.out.size)⟩, by simp [intOf]; omega⟩
      rw [HN.out]
      go_num
    · obtain rfl : k = l.length := by omega
      have e : l.take l.length = l := List.take_length
      rw [e]
      go_wp2
      go_ret
      exact ⟨rfl, hbw⟩
/-- The premise: what is told of an element. -/
def togethervalP (B d : Nat) (w : World) (l : List Vl') : Prop := ∀ a ∈ l, ∀ x y z wr, Below w.heap.size w wr → VAt (Rd B wr) d a [x, y, z] → Calls Tryz.prog 92 #[.agg #[x, y, z]] wr fun e w' => e = .returned (.int .i64 (zV a : Nat)) ∧ Below wr.heap.size wr w'
set_option maxRecDepth 1000000 in
set_option maxHeartbeats 4000000 in
theorem together_val (B d : Nat) (l : List Vl') (u : Value) (w : World) (hB : B ≤ w.heap.size) (hl : LsAt (Rd B w) 31 3 (VAt (Rd B w) d) l u) (hg : togethervalP B d w l) (hsm : sm (l.map zV) ≤ 1000000000000) :
    Calls Tryz.prog 91 #[u, .func (.func 92) #[] #[]] w fun e w' => e = .returned (.int .i64 (sm (l.map zV) : Nat)) ∧ Below w.heap.size w w' := by
  obtain ⟨A, c, xs, rfl, hs, hb, hr, hn⟩ := hl.open_
  have HS := Lib.hid hs
  have HR := Lib.hid hr
  have HG := Lib.hid hg
  have HSM := Lib.hid hsm
  have HBB := Lib.hid hb
  clear hs hr hg hl hsm hb
  go_enter Tryz.func91, Tryz.ntmps91
  go_wp2
  go_loopw [5, 9] (fun n i wr => ∃ k : Nat, i = .int .i64 k ∧ k ≤ l.length ∧ n = .int .i64 (sm ((l.take k).map zV) : Nat) ∧ Below w.heap.size w wr) (fun _ i _ => l.length - (intOf i).toNat)
  case atStart => exact ⟨0, rfl, by omega, rfl, Below.refl _ _⟩
  case round =>
    obtain ⟨k, rfl, hk, rfl, hbw⟩ := hrel
    by_cases hlt : k < l.length
    · obtain ⟨a, ha⟩ : ∃ a, l[k]? = some a := ⟨_, List.getElem?_eq_getElem hlt⟩
      obtain ⟨ad, x, y, z, rfl, hg, hc, c0, c1, c2⟩ := row3 vAt.len (sl_low HS.out HBB.out (Lo.below hbw hB)) (HR.out.imp fun a cs h => VRd.low (Lo.below hbw hB) h) ha
      have HC := Lib.hid (HG.out a (List.mem_of_getElem? ha) _ _ _ wr hbw hc)
      have HN := Lib.hid (sm_take_next zV ha)
      have HB2 := Lib.hid hbw
      have hle : sm ((l.take (k + 1)).map zV) ≤ 1000000000000 := Nat.le_trans (sm_take_le l (k + 1) zV) HSM.out
      rw [HN.out] at hle
      obtain ⟨p, hp⟩ : ∃ p, sm ((l.take k).map zV) = p := ⟨_, rfl⟩
      obtain ⟨q, hq⟩ : ∃ q, zV a = q := ⟨_, rfl⟩
      rw [hp, hq] at hle
      rw [hp, hq] at HN
      rw [hp]
      rw [hq] at HC
      clear hc hbw ha hp hq
      go_wp2_with (go_at_call 92; refine HC.out.mono ?_; rintro e w1 ⟨rfl, hb1⟩)
      refine ⟨⟨k + 1, by go_num, by omega, ?_, HB2.out.trans (hb1.mono HB2.out.size)⟩, by simp [intOf]; omega⟩
      rw [HN.out]
      go_num
    · obtain rfl : k = l.length := by omega
      have e : l.take l.length = l := List.take_length
      rw [e]
      go_wp2
      go_ret
      exact ⟨rfl, hbw⟩
/-- The premise: what is told of an element. -/
def togetherslotP (B d : Nat) (w : World) (l : List So) : Prop := ∀ a ∈ l, ∀ x y z wr, Below w.heap.size w wr → SAt' (Rd B wr) d a [x, y, z] → Calls Tryz.prog 44 #[.agg #[x, y, z]] wr fun e w' => e = .returned (.int .i64 (zS a : Nat)) ∧ Below wr.heap.size wr w'
set_option maxRecDepth 1000000 in
set_option maxHeartbeats 4000000 in
theorem together_slot (B d : Nat) (l : List So) (u : Value) (w : World) (hB : B ≤ w.heap.size) (hl : LsAt (Rd B w) 36 3 (SAt' (Rd B w) d) l u) (hg : togetherslotP B d w l) (hsm : sm (l.map zS) ≤ 1000000000000) :
    Calls Tryz.prog 43 #[u, .func (.func 44) #[] #[]] w fun e w' => e = .returned (.int .i64 (sm (l.map zS) : Nat)) ∧ Below w.heap.size w w' := by
  obtain ⟨A, c, xs, rfl, hs, hb, hr, hn⟩ := hl.open_
  have HS := Lib.hid hs
  have HR := Lib.hid hr
  have HG := Lib.hid hg
  have HSM := Lib.hid hsm
  have HBB := Lib.hid hb
  clear hs hr hg hl hsm hb
  go_enter Tryz.func43, Tryz.ntmps43
  go_wp2
  go_loopw [5, 9] (fun n i wr => ∃ k : Nat, i = .int .i64 k ∧ k ≤ l.length ∧ n = .int .i64 (sm ((l.take k).map zS) : Nat) ∧ Below w.heap.size w wr) (fun _ i _ => l.length - (intOf i).toNat)
  case atStart => exact ⟨0, rfl, by omega, rfl, Below.refl _ _⟩
  case round =>
    obtain ⟨k, rfl, hk, rfl, hbw⟩ := hrel
    by_cases hlt : k < l.length
    · obtain ⟨a, ha⟩ : ∃ a, l[k]? = some a := ⟨_, List.getElem?_eq_getElem hlt⟩
      obtain ⟨ad, x, y, z, rfl, hg, hc, c0, c1, c2⟩ := row3 sAt.len (sl_low HS.out HBB.out (Lo.below hbw hB)) (HR.out.imp fun a cs h => SRd.low (Lo.below hbw hB) h) ha
      have HC := Lib.hid (HG.out a (List.mem_of_getElem? ha) _ _ _ wr hbw hc)
      have HN := Lib.hid (sm_take_next zS ha)
      have HB2 := Lib.hid hbw
      have hle : sm ((l.take (k + 1)).map zS) ≤ 1000000000000 := Nat.le_trans (sm_take_le l (k + 1) zS) HSM.out
      rw [HN.out] at hle
      obtain ⟨p, hp⟩ : ∃ p, sm ((l.take k).map zS) = p := ⟨_, rfl⟩
      obtain ⟨q, hq⟩ : ∃ q, zS a = q := ⟨_, rfl⟩
      rw [hp, hq] at hle
      rw [hp, hq] at HN
      rw [hp]
      rw [hq] at HC
      clear hc hbw ha hp hq
      go_wp2_with (go_at_call 44; refine HC.out.mono ?_; rintro e w1 ⟨rfl, hb1⟩)
      refine ⟨⟨k + 1, by go_num, by omega, ?_, HB2.out.trans (hb1.mono HB2.out.size)⟩, by simp [intOf]; omega⟩
      rw [HN.out]
      go_num
    · obtain rfl : k = l.length := by omega
      have e : l.take l.length = l := List.take_length
      rw [e]
      go_wp2
      go_ret
      exact ⟨rfl, hbw⟩

/-- A box of three cells, and of one. -/
theorem bx3 {w : World} {g : Nat} {a b c : Value} {t : TypeId} {fr : Nat × Nat} (h : w.heap[g]? = some (.cells #[a, b, c] t fr)) : w.cell? ⟨g, 0, none⟩ = some a ∧ w.cell? ⟨g, 1, none⟩ = some b ∧ w.cell? ⟨g, 2, none⟩ = some c := ⟨by rw [box_cell h]; rfl, by rw [box_cell h]; rfl, by rw [box_cell h]; rfl⟩
theorem bx1 {w : World} {g : Nat} {a : Value} {t : TypeId} {fr : Nat × Nat} (h : w.heap[g]? = some (.cells #[a] t fr)) : w.cell? ⟨g, 0, none⟩ = some a := by rw [box_cell h]; rfl
theorem box_on {w w' : World} {g : Nat} {o : Obj} (h : w.heap[g]? = some o) (hb : Below w.heap.size w w') : w'.heap[g]? = some o := (hb.block _ (box_lt h)).trans h
/-- Box g, which holds a slot, is as it was: whole, and its lists. -/
def Bx (g : Nat) (o : Obj) (u1 u2 : Value) (w : World) : Prop := w.heap[g]? = some o ∧ w.cell? ⟨g, 1, none⟩ = some u1 ∧ w.cell? ⟨g, 2, none⟩ = some u2
theorem Bx.on {g : Nat} {o : Obj} {u1 u2 : Value} {w w' : World} (h : Bx g o u1 u2 w) (hb : Below w.heap.size w w') : Bx g o u1 u2 w' :=
  have e := hb.block g (box_lt h.1)
  ⟨e.trans h.1, (World.cell?_of_block e).trans h.2.1, (World.cell?_of_block e).trans h.2.2⟩

/-- Size, of messages within so many levels. -/
def SizeH (B d : Nat) : Prop := ∀ (m : Mg) (u : Value) (w : World), B ≤ w.heap.size → MRd B w d m u → m.size ≤ 1000000000000 → Calls Tryz.prog 22 #[.agg #[u]] w fun e w' => e = .returned (.int .i64 (m.size : Nat)) ∧ Below w.heap.size w w'
theorem sizeVal_any {B d : Nat} (H : SizeH B d) (v : Vl') (u : Value) (w : World) (hB : B ≤ w.heap.size) (hv : VAt (Rd B w) d v [.int .i64 v.n, .string (tx v.s), u]) (hsm : zV v ≤ 1000000000000) :
    Calls Tryz.prog 92 #[.agg #[.int .i64 v.n, .string (tx v.s), u]] w fun e w' => e = .returned (.int .i64 (zV v : Nat)) ∧ Below w.heap.size w w' := by
  obtain ⟨u', hu, hl⟩ := hv
  simp only [List.cons.injEq, and_true, true_and] at hu
  subst hu
  have hbw := below_new w (.cells #[.int .i64 v.n, .string (tx v.s), u] 31)
  have hT := together_msg B d v.M u _ (Nat.le_trans hB hbw.size) (hl.low (Lo.below hbw hB) fun a cs h => MRd.low (Lo.below hbw hB) h)
    (fun a ha x wr hw hr => H a x wr (Nat.le_trans (Nat.le_trans hB hbw.size) hw.size) hr (by have := mem_le_sm (g := Mg.size) ha; unfold zV at hsm; omega)) (by unfold zV at hsm; omega)
  have hz : zV v = 1 + sm (v.M.map Mg.size) := rfl
  obtain ⟨q, hq⟩ : ∃ q, sm (v.M.map Mg.size) = q := ⟨_, rfl⟩
  rw [hz, hq] at hsm ⊢
  rw [hq] at hT
  have HT := Lib.hid hT
  clear hT hl hz hq H
  go_enter Tryz.func92, Tryz.ntmps92
  go_wp2_with (go_at_call 129; refine HT.out.mono ?_; rintro e w1 ⟨rfl, hb1⟩)
  go_ret
  exact ⟨by go_num, hbw.trans (hb1.mono hbw.size)⟩
theorem valP {B d : Nat} (H : SizeH B d) {w : World} (hB : B ≤ w.heap.size) {l : List Vl'} (hsm : sm (l.map zV) ≤ 1000000000000) : togethervalP B d w l := fun a ha x y z wr hw hr => by
  have hr' := hr
  obtain ⟨u, hu, _⟩ := hr
  simp only [List.cons.injEq, and_true] at hu
  obtain ⟨rfl, rfl, rfl⟩ := hu
  exact sizeVal_any H a z wr (Nat.le_trans hB hw.size) hr' (by have := mem_le_sm (g := zV) ha; omega)
set_option maxRecDepth 1000000 in
set_option maxHeartbeats 4000000 in
theorem sizeSlot_any {B d : Nat} (H : SizeH B d) (s : So) (u1 u2 : Value) (w : World) (hB : B ≤ w.heap.size) (hs : SAt' (Rd B w) d s [.int .i64 s.no, u1, u2]) (hsm : zS s ≤ 1000000000000) :
    Calls Tryz.prog 44 #[.agg #[.int .i64 s.no, u1, u2]] w fun e w' => e = .returned (.int .i64 (zS s : Nat)) ∧ Below w.heap.size w w' := by
  obtain ⟨u1', u2', hu, hk, hv⟩ := hs
  simp only [List.cons.injEq, and_true, true_and] at hu
  obtain ⟨rfl, rfl⟩ := hu
  have H1 := Lib.hid (fun wx (hx : Below w.heap.size w wx) => together_val B d s.K u1 wx (Nat.le_trans hB hx.size) (hk.low (Lo.below hx hB) fun a cs h => VRd.low (Lo.below hx hB) h) (valP H (Nat.le_trans hB hx.size) (by unfold zS at hsm; omega)) (by unfold zS at hsm; omega))
  have H2 := Lib.hid (fun wx (hx : Below w.heap.size w wx) => together_val B d s.V u2 wx (Nat.le_trans hB hx.size) (hv.low (Lo.below hx hB) fun a cs h => VRd.low (Lo.below hx hB) h) (valP H (Nat.le_trans hB hx.size) (by unfold zS at hsm; omega)) (by unfold zS at hsm; omega))
  have hz : zS s = sm (s.K.map zV) + sm (s.V.map zV) := rfl
  obtain ⟨p, hp⟩ : ∃ p, sm (s.K.map zV) = p := ⟨_, rfl⟩
  obtain ⟨q, hq⟩ : ∃ q, sm (s.V.map zV) = q := ⟨_, rfl⟩
  rw [hz, hp, hq] at hsm ⊢
  rw [hp] at H1
  rw [hq] at H2
  have LBD : Below w.heap.size w ((w.alloc (.cells #[.int .i64 s.no, u1, u2] 36)).drew) := (below_new w _).trans (Below.refl _ _).drew
  have h0 : Bx w.heap.size (.cells #[.int .i64 s.no, u1, u2] 36 (0, 0)) u1 u2 ((w.alloc (.cells #[.int .i64 s.no, u1, u2] 36)).drew) := ⟨heap_alloc_new w _, (bx3 (heap_alloc_new w (.cells #[.int .i64 s.no, u1, u2] 36))).2.1, (bx3 (heap_alloc_new w (.cells #[.int .i64 s.no, u1, u2] 36))).2.2⟩
  have HW : Hid (IntKind.i64.wrap ((p : Int) + (q : Int)) = ((p + q : Nat) : Int)) := Lib.hid (by rw [IntKind.wrap_i64]; omega)
  clear hz hp hq H hk hv
  go_enter Tryz.func44, Tryz.ntmps44
  go_wp2_with fail
  go_region_held3 (fun w' => w'.heap[w.heap.size]? = some (.cells #[.int .i64 s.no, u1, u2] 36 (0, 0)) ∧ w'.cell? ⟨w.heap.size, 1, none⟩ = some u1 ∧ w'.cell? ⟨w.heap.size, 2, none⟩ = some u2)
    (first | exact h0 | exact Bx.on h0 ‹_› | exact Bx.on (Bx.on h0 hbK) hbV | exact Bx.on (Bx.on h0 hbV) hbK | go_keep)
    ((first
      | (go_at_call 91; with_reducible refine (H1.out _ (by first | exact LBD | exact LBD.trans (hbV.mono LBD.size))).mono ?_; rintro e wK ⟨rfl, hbK⟩)
      | (go_at_call 91; with_reducible refine (H2.out _ (by first | exact LBD | exact LBD.trans (hbK.mono LBD.size))).mono ?_; rintro e wV ⟨rfl, hbV⟩)))
  all_goals
    go_wp2
    go_ret
    exact ⟨by rw [HW.out]; rfl, by first | exact below_then (below_then LBD hbK) hbV | exact below_then (below_then LBD hbV) hbK⟩
theorem slotP {B d : Nat} (H : SizeH B d) {w : World} (hB : B ≤ w.heap.size) {l : List So} (hsm : sm (l.map zS) ≤ 1000000000000) : togetherslotP B d w l := fun a ha x y z wr hw hr => by
  have hr' := hr
  obtain ⟨u1, u2, hu, _⟩ := hr
  simp only [List.cons.injEq, and_true] at hu
  obtain ⟨rfl, rfl, rfl⟩ := hu
  exact sizeSlot_any H a y z wr (Nat.le_trans hB hw.size) hr' (by have := mem_le_sm (g := zS) ha; omega)
theorem size_step {B d : Nat} (H : SizeH B d) : SizeH B (d + 1) := by
  rintro m u w hB ⟨u', hu, hl⟩ hsm
  simp only [List.cons.injEq, and_true] at hu
  subst hu
  have hbw := below_new w (.cells #[u] 28)
  rw [m.size_eq] at hsm ⊢
  have hT := together_slot B d m.F u _ (Nat.le_trans hB hbw.size) (hl.low (Lo.below hbw hB) fun a cs h => SRd.low (Lo.below hbw hB) h) (slotP H (Nat.le_trans hB hbw.size) hsm) hsm
  obtain ⟨q, hq⟩ : ∃ q, sm (m.F.map zS) = q := ⟨_, rfl⟩
  rw [hq] at hT hsm ⊢
  have HT := Lib.hid hT
  clear hT hl hq H
  go_enter Tryz.func22, Tryz.ntmps22
  go_wp2_with (go_at_call 43; refine HT.out.mono ?_; rintro e w1 ⟨rfl, hb1⟩)
  go_ret
  exact ⟨rfl, hbw.trans (hb1.mono hbw.size)⟩
/-- value.Size, of any message. -/
theorem size_any (B : Nat) : ∀ d, SizeH B d
  | 0 => fun _ _ _ _ h _ => h.elim
  | d + 1 => size_step (size_any B d)
end Go.Proofs.YtjmcpfckcajnjaaGreatDoor.T9
/-
  How deep a message is: value's Deep, and the greatest numbers below it.
-/
namespace Go.Proofs.YtjmcpfckcajnjaaGreatDoor.T9
set_option maxRecDepth 100000

open Go.RowKit

/-- The premise: what is told of an element. -/
def greatestmsgP (B d : Nat) (w : World) (l : List Mg) : Prop := ∀ a ∈ l, ∀ x wr, Below w.heap.size w wr → MAt (Rd B wr) d a [x] → Calls Tryz.prog 21 #[.agg #[x]] wr fun e w' => e = .returned (.int .i64 (Mg.deep a : Nat)) ∧ Below wr.heap.size wr w'
set_option maxRecDepth 1000000 in
set_option maxHeartbeats 4000000 in
theorem greatest_msg (B d : Nat) (l : List Mg) (u : Value) (w : World) (hB : B ≤ w.heap.size) (hl : LsAt (Rd B w) 28 1 (MAt (Rd B w) d) l u) (hg : greatestmsgP B d w l) (hsm : mx (l.map Mg.deep) ≤ 1000000000000) :
    Calls Tryz.prog 128 #[u, .func (.func 21) #[] #[]] w fun e w' => e = .returned (.int .i64 (mx (l.map Mg.deep) : Nat)) ∧ Below w.heap.size w w' := by
  obtain ⟨A, c, xs, rfl, hs, hb, hr, hn⟩ := hl.open_
  have HS := Lib.hid hs
  have HR := Lib.hid hr
  have HG := Lib.hid hg
  have HSM := Lib.hid hsm
  have HBB := Lib.hid hb
  clear hs hr hg hl hsm hb
  go_enter Tryz.func128, Tryz.ntmps128
  go_wp2
  go_loopw [5, 9] (fun n i wr => ∃ k : Nat, i = .int .i64 k ∧ k ≤ l.length ∧ n = .int .i64 (mx ((l.take k).map Mg.deep) : Nat) ∧ Below w.heap.size w wr) (fun _ i _ => l.length - (intOf i).toNat)
  case atStart => exact ⟨0, rfl, by omega, rfl, Below.refl _ _⟩
  case round =>
    obtain ⟨k, rfl, hk, rfl, hbw⟩ := hrel
    by_cases hlt : k < l.length
    · obtain ⟨a, ha⟩ : ∃ a, l[k]? = some a := ⟨_, List.getElem?_eq_getElem hlt⟩
      obtain ⟨ad, x, rfl, hg, hc, c0⟩ := row1 MAt.len (sl_low HS.out HBB.out (Lo.below hbw hB)) (HR.out.imp fun a cs h => MRd.low (Lo.below hbw hB) h) ha
      have HC := Lib.hid (HG.out a (List.mem_of_getElem? ha) _ wr hbw hc)
      have HN := Lib.hid (mx_take_next Mg.deep ha)
      have HB2 := Lib.hid hbw
      have hle : mx ((l.take (k + 1)).map Mg.deep) ≤ 1000000000000 := Nat.le_trans (mx_take_le l (k + 1) Mg.deep) HSM.out
      rw [HN.out] at hle
      obtain ⟨p, hp⟩ : ∃ p, mx ((l.take k).map Mg.deep) = p := ⟨_, rfl⟩
      obtain ⟨q, hq⟩ : ∃ q, Mg.deep a = q := ⟨_, rfl⟩
      rw [hp, hq] at hle
      rw [hp, hq] at HN
      rw [hp]
      rw [hq] at HC
      clear hc hbw ha hp hq
      go_wp2_with (go_at_call 21; refine HC.out.mono ?_; rintro e w1 ⟨rfl, hb1⟩)
      refine ⟨⟨k + 1, by go_num, by omega, ?_, HB2.out.trans (hb1.mono HB2.out.size)⟩, by simp [intOf]; omega⟩
      rw [HN.out]
      go_num
    · obtain rfl : k = l.length := by omega
      have e : l.take l.length = l := List.take_length
      rw [e]
      go_wp2
      go_ret
      exact ⟨rfl, hbw⟩
/-- The premise: what is told of an element. -/
def greatestvalP (B d : Nat) (w : World) (l : List Vl') : Prop := ∀ a ∈ l, ∀ x y z wr, Below w.heap.size w wr → VAt (Rd B wr) d a [x, y, z] → Calls Tryz.prog 90 #[.agg #[x, y, z]] wr fun e w' => e = .returned (.int .i64 (dV a : Nat)) ∧ Below wr.heap.size wr w'
set_option maxRecDepth 1000000 in
set_option maxHeartbeats 4000000 in
theorem greatest_val (B d : Nat) (l : List Vl') (u : Value) (w : World) (hB : B ≤ w.heap.size) (hl : LsAt (Rd B w) 31 3 (VAt (Rd B w) d) l u) (hg : greatestvalP B d w l) (hsm : mx (l.map dV) ≤ 1000000000000) :
    Calls Tryz.prog 89 #[u, .func (.func 90) #[] #[]] w fun e w' => e = .returned (.int .i64 (mx (l.map dV) : Nat)) ∧ Below w.heap.size w w' := by
  obtain ⟨A, c, xs, rfl, hs, hb, hr, hn⟩ := hl.open_
  have HS := Lib.hid hs
  have HR := Lib.hid hr
  have HG := Lib.hid hg
  have HSM := Lib.hid hsm
  have HBB := Lib.hid hb
  clear hs hr hg hl hsm hb
  go_enter Tryz.func89, Tryz.ntmps89
  go_wp2
  go_loopw [5, 9] (fun n i wr => ∃ k : Nat, i = .int .i64 k ∧ k ≤ l.length ∧ n = .int .i64 (mx ((l.take k).map dV) : Nat) ∧ Below w.heap.size w wr) (fun _ i _ => l.length - (intOf i).toNat)
  case atStart => exact ⟨0, rfl, by omega, rfl, Below.refl _ _⟩
  case round =>
    obtain ⟨k, rfl, hk, rfl, hbw⟩ := hrel
    by_cases hlt : k < l.length
    · obtain ⟨a, ha⟩ : ∃ a, l[k]? = some a := ⟨_, List.getElem?_eq_getElem hlt⟩
      obtain ⟨ad, x, y, z, rfl, hg, hc, c0, c1, c2⟩ := row3 vAt.len (sl_low HS.out HBB.out (Lo.below hbw hB)) (HR.out.imp fun a cs h => VRd.low (Lo.below hbw hB) h) ha
      have HC := Lib.hid (HG.out a (List.mem_of_getElem? ha) _ _ _ wr hbw hc)
      have HN := Lib.hid (mx_take_next dV ha)
      have HB2 := Lib.hid hbw
      have hle : mx ((l.take (k + 1)).map dV) ≤ 1000000000000 := Nat.le_trans (mx_take_le l (k + 1) dV) HSM.out
      rw [HN.out] at hle
      obtain ⟨p, hp⟩ : ∃ p, mx ((l.take k).map dV) = p := ⟨_, rfl⟩
      obtain ⟨q, hq⟩ : ∃ q, dV a = q := ⟨_, rfl⟩
      rw [hp, hq] at hle
      rw [hp, hq] at HN
      rw [hp]
      rw [hq] at HC
      clear hc hbw ha hp hq
      go_wp2_with (go_at_call 90; refine HC.out.mono ?_; rintro e w1 ⟨rfl, hb1⟩)
      refine ⟨⟨k + 1, by go_num, by omega, ?_, HB2.out.trans (hb1.mono HB2.out.size)⟩, by simp [intOf]; omega⟩
      rw [HN.out]
      go_num
    · obtain rfl : k = l.length := by omega
      have e : l.take l.length = l := List.take_length
      rw [e]
      go_wp2
      go_ret
      exact ⟨rfl, hbw⟩
/-- The premise: what is told of an element. -/
def greatestslotP (B d : Nat) (w : World) (l : List So) : Prop := ∀ a ∈ l, ∀ x y z wr, Below w.heap.size w wr → SAt' (Rd B wr) d a [x, y, z] → Calls Tryz.prog 42 #[.agg #[x, y, z]] wr fun e w' => e = .returned (.int .i64 (dS a : Nat)) ∧ Below wr.heap.size wr w'
set_option maxRecDepth 1000000 in
set_option maxHeartbeats 4000000 in
theorem greatest_slot (B d : Nat) (l : List So) (u : Value) (w : World) (hB : B ≤ w.heap.size) (hl : LsAt (Rd B w) 36 3 (SAt' (Rd B w) d) l u) (hg : greatestslotP B d w l) (hsm : mx (l.map dS) ≤ 1000000000000) :
    Calls Tryz.prog 41 #[u, .func (.func 42) #[] #[]] w fun e w' => e = .returned (.int .i64 (mx (l.map dS) : Nat)) ∧ Below w.heap.size w w' := by
  obtain ⟨A, c, xs, rfl, hs, hb, hr, hn⟩ := hl.open_
  have HS := Lib.hid hs
  have HR := Lib.hid hr
  have HG := Lib.hid hg
  have HSM := Lib.hid hsm
  have HBB := Lib.hid hb
  clear hs hr hg hl hsm hb
  go_enter Tryz.func41, Tryz.ntmps41
  go_wp2
  go_loopw [5, 9] (fun n i wr => ∃ k : Nat, i = .int .i64 k ∧ k ≤ l.length ∧ n = .int .i64 (mx ((l.take k).map dS) : Nat) ∧ Below w.heap.size w wr) (fun _ i _ => l.length - (intOf i).toNat)
  case atStart => exact ⟨0, rfl, by omega, rfl, Below.refl _ _⟩
  case round =>
    obtain ⟨k, rfl, hk, rfl, hbw⟩ := hrel
    by_cases hlt : k < l.length
    · obtain ⟨a, ha⟩ : ∃ a, l[k]? = some a := ⟨_, List.getElem?_eq_getElem hlt⟩
      obtain ⟨ad, x, y, z, rfl, hg, hc, c0, c1, c2⟩ := row3 sAt.len (sl_low HS.out HBB.out (Lo.below hbw hB)) (HR.out.imp fun a cs h => SRd.low (Lo.below hbw hB) h) ha
      have HC := Lib.hid (HG.out a (List.mem_of_getElem? ha) _ _ _ wr hbw hc)
      have HN := Lib.hid (mx_take_next dS ha)
      have HB2 := Lib.hid hbw
      have hle : mx ((l.take (k + 1)).map dS) ≤ 1000000000000 := Nat.le_trans (mx_take_le l (k + 1) dS) HSM.out
      rw [HN.out] at hle
      obtain ⟨p, hp⟩ : ∃ p, mx ((l.take k).map dS) = p := ⟨_, rfl⟩
      obtain ⟨q, hq⟩ : ∃ q, dS a = q := ⟨_, rfl⟩
      rw [hp, hq] at hle
      rw [hp, hq] at HN
      rw [hp]
      rw [hq] at HC
      clear hc hbw ha hp hq
      go_wp2_with (go_at_call 42; refine HC.out.mono ?_; rintro e w1 ⟨rfl, hb1⟩)
      refine ⟨⟨k + 1, by go_num, by omega, ?_, HB2.out.trans (hb1.mono HB2.out.size)⟩, by simp [intOf]; omega⟩
      rw [HN.out]
      go_num
    · obtain rfl : k = l.length := by omega
      have e : l.take l.length = l := List.take_length
      rw [e]
      go_wp2
      go_ret
      exact ⟨rfl, hbw⟩

/-- Deep, of messages within so many levels. -/
def DeepH (B d : Nat) : Prop := ∀ (m : Mg) (u : Value) (w : World), B ≤ w.heap.size → MRd B w d m u → m.deep ≤ 1000000000000 → Calls Tryz.prog 21 #[.agg #[u]] w fun e w' => e = .returned (.int .i64 (m.deep : Nat)) ∧ Below w.heap.size w w'
theorem deepVal_any {B d : Nat} (H : DeepH B d) (v : Vl') (u : Value) (w : World) (hB : B ≤ w.heap.size) (hv : VAt (Rd B w) d v [.int .i64 v.n, .string (tx v.s), u]) (hsm : dV v ≤ 1000000000000) :
    Calls Tryz.prog 90 #[.agg #[.int .i64 v.n, .string (tx v.s), u]] w fun e w' => e = .returned (.int .i64 (dV v : Nat)) ∧ Below w.heap.size w w' := by
  obtain ⟨u', hu, hl⟩ := hv
  simp only [List.cons.injEq, and_true, true_and] at hu
  subst hu
  have hbw := below_new w (.cells #[.int .i64 v.n, .string (tx v.s), u] 31)
  have hT := greatest_msg B d v.M u _ (Nat.le_trans hB hbw.size) (hl.low (Lo.below hbw hB) fun a cs h => MRd.low (Lo.below hbw hB) h)
    (fun a ha x wr hw hr => H a x wr (Nat.le_trans (Nat.le_trans hB hbw.size) hw.size) hr (by have := mem_le_mx (g := Mg.deep) ha; unfold dV at hsm; omega)) (by unfold dV at hsm; omega)
  have hz : dV v = mx (v.M.map Mg.deep) := rfl
  obtain ⟨q, hq⟩ : ∃ q, mx (v.M.map Mg.deep) = q := ⟨_, rfl⟩
  rw [hz, hq] at hsm ⊢
  rw [hq] at hT
  have HT := Lib.hid hT
  clear hT hl hz hq H
  go_enter Tryz.func90, Tryz.ntmps90
  go_wp2_with (go_at_call 128; refine HT.out.mono ?_; rintro e w1 ⟨rfl, hb1⟩)
  go_ret
  exact ⟨by go_num, hbw.trans (hb1.mono hbw.size)⟩
theorem dvalP {B d : Nat} (H : DeepH B d) {w : World} (hB : B ≤ w.heap.size) {l : List Vl'} (hsm : mx (l.map dV) ≤ 1000000000000) : greatestvalP B d w l := fun a ha x y z wr hw hr => by
  have hr' := hr
  obtain ⟨u, hu, _⟩ := hr
  simp only [List.cons.injEq, and_true] at hu
  obtain ⟨rfl, rfl, rfl⟩ := hu
  exact deepVal_any H a z wr (Nat.le_trans hB hw.size) hr' (by have := mem_le_mx (g := dV) ha; omega)
set_option maxRecDepth 1000000 in
set_option maxHeartbeats 4000000 in
theorem deepSlot_any {B d : Nat} (H : DeepH B d) (s : So) (u1 u2 : Value) (w : World) (hB : B ≤ w.heap.size) (hs : SAt' (Rd B w) d s [.int .i64 s.no, u1, u2]) (hsm : dS s ≤ 1000000000000) :
    Calls Tryz.prog 42 #[.agg #[.int .i64 s.no, u1, u2]] w fun e w' => e = .returned (.int .i64 (dS s : Nat)) ∧ Below w.heap.size w w' := by
  obtain ⟨u1', u2', hu, hk, hv⟩ := hs
  simp only [List.cons.injEq, and_true, true_and] at hu
  obtain ⟨rfl, rfl⟩ := hu
  have H1 := Lib.hid (fun wx (hx : Below w.heap.size w wx) => greatest_val B d s.K u1 wx (Nat.le_trans hB hx.size) (hk.low (Lo.below hx hB) fun a cs h => VRd.low (Lo.below hx hB) h) (dvalP H (Nat.le_trans hB hx.size) (by unfold dS at hsm; omega)) (by unfold dS at hsm; omega))
  have H2 := Lib.hid (fun wx (hx : Below w.heap.size w wx) => greatest_val B d s.V u2 wx (Nat.le_trans hB hx.size) (hv.low (Lo.below hx hB) fun a cs h => VRd.low (Lo.below hx hB) h) (dvalP H (Nat.le_trans hB hx.size) (by unfold dS at hsm; omega)) (by unfold dS at hsm; omega))
  have hz : dS s = max (mx (s.K.map dV)) (mx (s.V.map dV)) := rfl
  obtain ⟨p, hp⟩ : ∃ p, mx (s.K.map dV) = p := ⟨_, rfl⟩
  obtain ⟨q, hq⟩ : ∃ q, mx (s.V.map dV) = q := ⟨_, rfl⟩
  rw [hz, hp, hq] at hsm ⊢
  rw [hp] at H1
  rw [hq] at H2
  have LBD : Below w.heap.size w ((w.alloc (.cells #[.int .i64 s.no, u1, u2] 36)).drew) := (below_new w _).trans (Below.refl _ _).drew
  have h0 : Bx w.heap.size (.cells #[.int .i64 s.no, u1, u2] 36 (0, 0)) u1 u2 ((w.alloc (.cells #[.int .i64 s.no, u1, u2] 36)).drew) := ⟨heap_alloc_new w _, (bx3 (heap_alloc_new w (.cells #[.int .i64 s.no, u1, u2] 36))).2.1, (bx3 (heap_alloc_new w (.cells #[.int .i64 s.no, u1, u2] 36))).2.2⟩
  have HW : Hid (max (p : Int) (q : Int) = ((max p q : Nat) : Int)) := Lib.hid (by omega)
  clear hz hp hq H hk hv
  go_enter Tryz.func42, Tryz.ntmps42
  go_wp2_with fail
  go_region_held3 (fun w' => w'.heap[w.heap.size]? = some (.cells #[.int .i64 s.no, u1, u2] 36 (0, 0)) ∧ w'.cell? ⟨w.heap.size, 1, none⟩ = some u1 ∧ w'.cell? ⟨w.heap.size, 2, none⟩ = some u2)
    (first | exact h0 | exact Bx.on h0 ‹_› | exact Bx.on (Bx.on h0 hbK) hbV | exact Bx.on (Bx.on h0 hbV) hbK | go_keep)
    ((first
      | (go_at_call 89; with_reducible refine (H1.out _ (by first | exact LBD | exact LBD.trans (hbV.mono LBD.size))).mono ?_; rintro e wK ⟨rfl, hbK⟩)
      | (go_at_call 89; with_reducible refine (H2.out _ (by first | exact LBD | exact LBD.trans (hbK.mono LBD.size))).mono ?_; rintro e wV ⟨rfl, hbV⟩)))
  all_goals go_wp2
  all_goals go_ret
  all_goals exact ⟨by first | (show _ = Ending.returned (.int .i64 ((max p q : Nat) : Int)); rw [← HW.out]; rfl) | (rw [show max p q = q by omega]; rfl) | (rw [show max p q = p by omega]; rfl), by first | exact below_then (below_then LBD hbK) hbV | exact below_then (below_then LBD hbV) hbK⟩
theorem dslotP {B d : Nat} (H : DeepH B d) {w : World} (hB : B ≤ w.heap.size) {l : List So} (hsm : mx (l.map dS) ≤ 1000000000000) : greatestslotP B d w l := fun a ha x y z wr hw hr => by
  have hr' := hr
  obtain ⟨u1, u2, hu, _⟩ := hr
  simp only [List.cons.injEq, and_true] at hu
  obtain ⟨rfl, rfl, rfl⟩ := hu
  exact deepSlot_any H a y z wr (Nat.le_trans hB hw.size) hr' (by have := mem_le_mx (g := dS) ha; omega)
theorem deep_step {B d : Nat} (H : DeepH B d) : DeepH B (d + 1) := by
  rintro m u w hB ⟨u', hu, hl⟩ hsm
  simp only [List.cons.injEq, and_true] at hu
  subst hu
  have hbw := below_new w (.cells #[u] 28)
  rw [m.deep_eq] at hsm ⊢
  have hT := greatest_slot B d m.F u _ (Nat.le_trans hB hbw.size) (hl.low (Lo.below hbw hB) fun a cs h => SRd.low (Lo.below hbw hB) h) (dslotP H (Nat.le_trans hB hbw.size) (by omega)) (by omega)
  obtain ⟨q, hq⟩ : ∃ q, mx (m.F.map dS) = q := ⟨_, rfl⟩
  rw [hq] at hT hsm ⊢
  have HT := Lib.hid hT
  clear hT hl hq H
  go_enter Tryz.func21, Tryz.ntmps21
  go_wp2_with (go_at_call 41; refine HT.out.mono ?_; rintro e w1 ⟨rfl, hb1⟩)
  go_ret
  exact ⟨rfl, hbw.trans (hb1.mono hbw.size)⟩
/-- value.Deep, of any message. -/
theorem deep_any (B : Nat) : ∀ d, DeepH B d
  | 0 => fun _ _ _ _ h _ => h.elim
  | d + 1 => deep_step (deep_any B d)
end Go.Proofs.YtjmcpfckcajnjaaGreatDoor.T9
/-
  Whether two messages are the same: value's Same, and the comparisons below it.
-/
namespace Go.Proofs.YtjmcpfckcajnjaaGreatDoor.T9
set_option maxRecDepth 100000

open Go.RowKit

/-- Are two the same? -/
noncomputable def eqB {α : Type} (a b : α) : Bool := @decide (a = b) (Classical.propDecidable _)
theorem eqB_iff {α : Type} {a b : α} : eqB a b = true ↔ a = b := by unfold eqB; exact @decide_eq_true_iff _ (Classical.propDecidable _)
theorem eqB_yes {α : Type} {a b : α} (h : a = b) : eqB a b = true := eqB_iff.2 h
theorem eqB_no {α : Type} {a b : α} (h : ¬ a = b) : eqB a b = false := by unfold eqB; exact @decide_eq_false _ (Classical.propDecidable _) h
theorem cell_on {w w' : World} {a : Addr} {v : Value} (hb : Below w.heap.size w w') (h : w.cell? a = some v) : w'.cell? a = some v := (hb.cell (World.block_lt_of_cell? w _ h)).trans h
theorem eqB_false {α : Type} {a b : α} (h : eqB a b = false) : ¬ a = b := fun e => by rw [eqB_yes e] at h; cases h
theorem eq_take_next {α : Type} {l m : List α} {k : Nat} {x : α} (hx : l[k]? = some x) (hy : m[k]? = some x) (h : l.take k = m.take k) : l.take (k + 1) = m.take (k + 1) := by
  rw [List.take_add_one, List.take_add_one, hx, hy, h]
theorem eq_ne_at {α : Type} {l m : List α} {k : Nat} {x y : α} (hx : l[k]? = some x) (hy : m[k]? = some y) (hne : ¬ x = y) : ¬ l = m := fun e => by
  rw [e, hy] at hx
  exact hne (Option.some.inj hx).symm
theorem eqB_slot (a b : So) : eqB a b = (decide (a.no = b.no) && (eqB a.K b.K && eqB a.V b.V)) := by
  rw [Bool.eq_iff_iff, eqB_iff]
  simp only [Bool.and_eq_true, decide_eq_true_eq, eqB_iff]
  obtain ⟨n, k, v⟩ := a
  obtain ⟨n', k', v'⟩ := b
  simp
theorem eqB_val (a b : Vl') : eqB a b = (decide (a.n = b.n) && (decide (a.s = b.s) && eqB a.M b.M)) := by
  rw [Bool.eq_iff_iff, eqB_iff]
  simp only [Bool.and_eq_true, decide_eq_true_eq, eqB_iff]
  obtain ⟨n, k, v⟩ := a
  obtain ⟨n', k', v'⟩ := b
  simp
theorem eqB_msg (a b : Mg) : eqB a b = eqB a.F b.F := by
  rw [Bool.eq_iff_iff, eqB_iff, eqB_iff]
  exact ⟨fun h => by rw [h], Mg.ext⟩

/-- The premise: what is told of two elements. -/
def samemsgP (B d : Nat) (w : World) (l m : List Mg) : Prop := ∀ (k : Nat) a b, l[k]? = some a → m[k]? = some b → ∀ x1 x2 wr, Below w.heap.size w wr → MAt (Rd B wr) d a [x1] → MAt (Rd B wr) d b [x2] → Calls Tryz.prog 38 #[.agg #[x1], .agg #[x2]] wr fun e w' => e = .returned (.bool (eqB a b)) ∧ Below wr.heap.size wr w'
set_option maxRecDepth 1000000 in
set_option maxHeartbeats 4000000 in
theorem same_msg (B d : Nat) (l m : List Mg) (u1 u2 : Value) (w : World) (hB : B ≤ w.heap.size) (hl : LsAt (Rd B w) 28 1 (MAt (Rd B w) d) l u1) (hm : LsAt (Rd B w) 28 1 (MAt (Rd B w) d) m u2) (hg : samemsgP B d w l m) :
    Calls Tryz.prog 152 #[u1, u2, .func (.func 38) #[] #[]] w fun e w' => e = .returned (.bool (eqB l m)) ∧ Below w.heap.size w w' := by
  obtain ⟨A1, d1, xs1, rfl, hs1, hb1, hr1, hn1⟩ := hl.open_
  obtain ⟨A2, d2, xs2, rfl, hs2, hb2, hr2, hn2⟩ := hm.open_
  have HS1 := Lib.hid hs1
  have HR1 := Lib.hid hr1
  have HB1 := Lib.hid hb1
  have HS2 := Lib.hid hs2
  have HR2 := Lib.hid hr2
  have HB2 := Lib.hid hb2
  have HG := Lib.hid hg
  clear hs1 hr1 hs2 hr2 hg hl hm hb1 hb2
  by_cases hlen : l.length = m.length
  · have HLEN := Lib.hid hlen
    rw [← hlen]
    clear hlen
    go_enter Tryz.func152, Tryz.ntmps152
    go_wp2
    go_loopw [15] (fun i wr => ∃ k : Nat, i = .int .i64 k ∧ k ≤ l.length ∧ l.take k = m.take k ∧ Below w.heap.size w wr) (fun i _ => l.length - (intOf i).toNat)
    case atStart => exact ⟨0, rfl, by omega, rfl, Below.refl _ _⟩
    case round =>
      obtain ⟨k, rfl, hk, htk, hbw⟩ := hrel
      have HTK := Lib.hid htk
      clear htk
      by_cases hlt : k < l.length
      · have hlt2 : k < m.length := by rw [← HLEN.out]; exact hlt
        obtain ⟨a, ha⟩ : ∃ a, l[k]? = some a := ⟨_, List.getElem?_eq_getElem hlt⟩
        obtain ⟨b, hb⟩ : ∃ b, m[k]? = some b := ⟨_, List.getElem?_eq_getElem hlt2⟩
        obtain ⟨ad1, x1, rfl, hg1, hc1, p0⟩ := row1 MAt.len (sl_low HS1.out HB1.out (Lo.below hbw hB)) (HR1.out.imp fun a cs h => MRd.low (Lo.below hbw hB) h) ha
        obtain ⟨ad2, x2, rfl, hg2, hc2, q0⟩ := row1 MAt.len (sl_low HS2.out HB2.out (Lo.below hbw hB)) (HR2.out.imp fun a cs h => MRd.low (Lo.below hbw hB) h) hb
        have HC := Lib.hid (HG.out k a b ha hb _ _ wr.drew (hbw.trans (Below.refl _ _).drew) (MRd.low (Lo.below (Below.refl _ _).drew (Nat.le_trans hB hbw.size)) hc1) (MRd.low (Lo.below (Below.refl _ _).drew (Nat.le_trans hB hbw.size)) hc2))
        have HBW := Lib.hid hbw
        have HA := Lib.hid ha
        have HBb := Lib.hid hb
        obtain ⟨r, hr⟩ : ∃ r, eqB a b = r := ⟨_, rfl⟩
        rw [hr] at HC
        have HRR := Lib.hid hr
        have hS : wr.cell? (ad1.add k) = some x1 ∧ wr.cell? (ad2.add k) = some x2 := ⟨p0, q0⟩
        clear hc1 hc2 hbw ha hb hr
        go_wp2_with fail
        go_region_held3 (fun wy => wy.cell? (ad1.add k) = some x1 ∧ wy.cell? (ad2.add k) = some x2)
          (first | exact hS | exact ⟨cell_on hb1 p0, cell_on hb1 q0⟩ | go_keep)
          ((go_at_call 38; refine HC.out.mono ?_; rintro e w1 ⟨rfl, hb1⟩))
        cases r with
        | true =>
          go_wp2
          obtain rfl := eqB_iff.1 HRR.out
          refine ⟨⟨k + 1, ?_, by omega, eq_take_next HA.out HBb.out HTK.out, HBW.out.trans ((Below.refl _ _).drew.trans (hb1.mono HBW.out.size))⟩, ?_⟩
          · go_num
          · simp [intOf]; omega
        | false =>
          go_wp2
          go_ret
          exact ⟨by rw [eqB_no (eq_ne_at HA.out HBb.out (eqB_false HRR.out))]; rfl, HBW.out.trans ((Below.refl _ _).drew.trans (hb1.mono HBW.out.size))⟩
      · obtain rfl : k = l.length := by omega
        go_wp2
        go_ret
        have e : l = m := by
          have h := HTK.out
          rwa [List.take_length, HLEN.out, List.take_length] at h
        exact ⟨by rw [eqB_yes e]; rfl, hbw⟩
  · have hne : ((l.length : Int) == (m.length : Int)) = false := by rw [beq_eq_false_iff_ne]; omega
    have HE := Lib.hid (eqB_no (fun e : l = m => hlen (by rw [e])))
    go_enter Tryz.func152, Tryz.ntmps152
    go_wp2
    go_ret
    exact ⟨by rw [HE.out]; rfl, Below.refl _ _⟩
/-- The premise: what is told of two elements. -/
def samevalP (B d : Nat) (w : World) (l m : List Vl') : Prop := ∀ (k : Nat) a b, l[k]? = some a → m[k]? = some b → ∀ x1 y1 z1 x2 y2 z2 wr, Below w.heap.size w wr → VAt (Rd B wr) d a [x1, y1, z1] → VAt (Rd B wr) d b [x2, y2, z2] → Calls Tryz.prog 123 #[.agg #[x1, y1, z1], .agg #[x2, y2, z2]] wr fun e w' => e = .returned (.bool (eqB a b)) ∧ Below wr.heap.size wr w'
set_option maxRecDepth 1000000 in
set_option maxHeartbeats 4000000 in
theorem same_val (B d : Nat) (l m : List Vl') (u1 u2 : Value) (w : World) (hB : B ≤ w.heap.size) (hl : LsAt (Rd B w) 31 3 (VAt (Rd B w) d) l u1) (hm : LsAt (Rd B w) 31 3 (VAt (Rd B w) d) m u2) (hg : samevalP B d w l m) :
    Calls Tryz.prog 122 #[u1, u2, .func (.func 123) #[] #[]] w fun e w' => e = .returned (.bool (eqB l m)) ∧ Below w.heap.size w w' := by
  obtain ⟨A1, d1, xs1, rfl, hs1, hb1, hr1, hn1⟩ := hl.open_
  obtain ⟨A2, d2, xs2, rfl, hs2, hb2, hr2, hn2⟩ := hm.open_
  have HS1 := Lib.hid hs1
  have HR1 := Lib.hid hr1
  have HB1 := Lib.hid hb1
  have HS2 := Lib.hid hs2
  have HR2 := Lib.hid hr2
  have HB2 := Lib.hid hb2
  have HG := Lib.hid hg
  clear hs1 hr1 hs2 hr2 hg hl hm hb1 hb2
  by_cases hlen : l.length = m.length
  · have HLEN := Lib.hid hlen
    rw [← hlen]
    clear hlen
    go_enter Tryz.func122, Tryz.ntmps122
    go_wp2
    go_loopw [15] (fun i wr => ∃ k : Nat, i = .int .i64 k ∧ k ≤ l.length ∧ l.take k = m.take k ∧ Below w.heap.size w wr) (fun i _ => l.length - (intOf i).toNat)
    case atStart => exact ⟨0, rfl, by omega, rfl, Below.refl _ _⟩
    case round =>
      obtain ⟨k, rfl, hk, htk, hbw⟩ := hrel
      have HTK := Lib.hid htk
      clear htk
      by_cases hlt : k < l.length
      · have hlt2 : k < m.length := by rw [← HLEN.out]; exact hlt
        obtain ⟨a, ha⟩ : ∃ a, l[k]? = some a := ⟨_, List.getElem?_eq_getElem hlt⟩
        obtain ⟨b, hb⟩ : ∃ b, m[k]? = some b := ⟨_, List.getElem?_eq_getElem hlt2⟩
        obtain ⟨ad1, x1, y1, z1, rfl, hg1, hc1, p0, p1, p2⟩ := row3 vAt.len (sl_low HS1.out HB1.out (Lo.below hbw hB)) (HR1.out.imp fun a cs h => VRd.low (Lo.below hbw hB) h) ha
        obtain ⟨ad2, x2, y2, z2, rfl, hg2, hc2, q0, q1, q2⟩ := row3 vAt.len (sl_low HS2.out HB2.out (Lo.below hbw hB)) (HR2.out.imp fun a cs h => VRd.low (Lo.below hbw hB) h) hb
        have HC := Lib.hid (HG.out k a b ha hb _ _ _ _ _ _ wr.drew (hbw.trans (Below.refl _ _).drew) (VRd.low (Lo.below (Below.refl _ _).drew (Nat.le_trans hB hbw.size)) hc1) (VRd.low (Lo.below (Below.refl _ _).drew (Nat.le_trans hB hbw.size)) hc2))
        have HBW := Lib.hid hbw
        have HA := Lib.hid ha
        have HBb := Lib.hid hb
        obtain ⟨r, hr⟩ : ∃ r, eqB a b = r := ⟨_, rfl⟩
        rw [hr] at HC
        have HRR := Lib.hid hr
        have hS : wr.cell? (ad1.add (k * 3)) = some x1 ∧ wr.cell? ⟨(ad1.add (k * 3)).block, (ad1.add (k * 3)).off + 1, none⟩ = some y1 ∧ wr.cell? ⟨(ad1.add (k * 3)).block, (ad1.add (k * 3)).off + 2, none⟩ = some z1 ∧ wr.cell? (ad2.add (k * 3)) = some x2 ∧ wr.cell? ⟨(ad2.add (k * 3)).block, (ad2.add (k * 3)).off + 1, none⟩ = some y2 ∧ wr.cell? ⟨(ad2.add (k * 3)).block, (ad2.add (k * 3)).off + 2, none⟩ = some z2 := ⟨p0, p1, p2, q0, q1, q2⟩
        clear hc1 hc2 hbw ha hb hr
        go_wp2_with fail
        go_region_held3 (fun wy => wy.cell? (ad1.add (k * 3)) = some x1 ∧ wy.cell? ⟨(ad1.add (k * 3)).block, (ad1.add (k * 3)).off + 1, none⟩ = some y1 ∧ wy.cell? ⟨(ad1.add (k * 3)).block, (ad1.add (k * 3)).off + 2, none⟩ = some z1 ∧ wy.cell? (ad2.add (k * 3)) = some x2 ∧ wy.cell? ⟨(ad2.add (k * 3)).block, (ad2.add (k * 3)).off + 1, none⟩ = some y2 ∧ wy.cell? ⟨(ad2.add (k * 3)).block, (ad2.add (k * 3)).off + 2, none⟩ = some z2)
          (first | exact hS | exact ⟨cell_on hb1 p0, cell_on hb1 p1, cell_on hb1 p2, cell_on hb1 q0, cell_on hb1 q1, cell_on hb1 q2⟩ | go_keep)
          ((go_at_call 123; refine HC.out.mono ?_; rintro e w1 ⟨rfl, hb1⟩))
        cases r with
        | true =>
          go_wp2
          obtain rfl := eqB_iff.1 HRR.out
          refine ⟨⟨k + 1, ?_, by omega, eq_take_next HA.out HBb.out HTK.out, HBW.out.trans ((Below.refl _ _).drew.trans (hb1.mono HBW.out.size))⟩, ?_⟩
          · go_num
          · simp [intOf]; omega
        | false =>
          go_wp2
          go_ret
          exact ⟨by rw [eqB_no (eq_ne_at HA.out HBb.out (eqB_false HRR.out))]; rfl, HBW.out.trans ((Below.refl _ _).drew.trans (hb1.mono HBW.out.size))⟩
      · obtain rfl : k = l.length := by omega
        go_wp2
        go_ret
        have e : l = m := by
          have h := HTK.out
          rwa [List.take_length, HLEN.out, List.take_length] at h
        exact ⟨by rw [eqB_yes e]; rfl, hbw⟩
  · have hne : ((l.length : Int) == (m.length : Int)) = false := by rw [beq_eq_false_iff_ne]; omega
    have HE := Lib.hid (eqB_no (fun e : l = m => hlen (by rw [e])))
    go_enter Tryz.func122, Tryz.ntmps122
    go_wp2
    go_ret
    exact ⟨by rw [HE.out]; rfl, Below.refl _ _⟩
/-- The premise: what is told of two elements. -/
def sameslotP (B d : Nat) (w : World) (l m : List So) : Prop := ∀ (k : Nat) a b, l[k]? = some a → m[k]? = some b → ∀ x1 y1 z1 x2 y2 z2 wr, Below w.heap.size w wr → SAt' (Rd B wr) d a [x1, y1, z1] → SAt' (Rd B wr) d b [x2, y2, z2] → Calls Tryz.prog 80 #[.agg #[x1, y1, z1], .agg #[x2, y2, z2]] wr fun e w' => e = .returned (.bool (eqB a b)) ∧ Below wr.heap.size wr w'
set_option maxRecDepth 1000000 in
set_option maxHeartbeats 4000000 in
theorem same_slot (B d : Nat) (l m : List So) (u1 u2 : Value) (w : World) (hB : B ≤ w.heap.size) (hl : LsAt (Rd B w) 36 3 (SAt' (Rd B w) d) l u1) (hm : LsAt (Rd B w) 36 3 (SAt' (Rd B w) d) m u2) (hg : sameslotP B d w l m) :
    Calls Tryz.prog 79 #[u1, u2, .func (.func 80) #[] #[]] w fun e w' => e = .returned (.bool (eqB l m)) ∧ Below w.heap.size w w' := by
  obtain ⟨A1, d1, xs1, rfl, hs1, hb1, hr1, hn1⟩ := hl.open_
  obtain ⟨A2, d2, xs2, rfl, hs2, hb2, hr2, hn2⟩ := hm.open_
  have HS1 := Lib.hid hs1
  have HR1 := Lib.hid hr1
  have HB1 := Lib.hid hb1
  have HS2 := Lib.hid hs2
  have HR2 := Lib.hid hr2
  have HB2 := Lib.hid hb2
  have HG := Lib.hid hg
  clear hs1 hr1 hs2 hr2 hg hl hm hb1 hb2
  by_cases hlen : l.length = m.length
  · have HLEN := Lib.hid hlen
    rw [← hlen]
    clear hlen
    go_enter Tryz.func79, Tryz.ntmps79
    go_wp2
    go_loopw [15] (fun i wr => ∃ k : Nat, i = .int .i64 k ∧ k ≤ l.length ∧ l.take k = m.take k ∧ Below w.heap.size w wr) (fun i _ => l.length - (intOf i).toNat)
    case atStart => exact ⟨0, rfl, by omega, rfl, Below.refl _ _⟩
    case round =>
      obtain ⟨k, rfl, hk, htk, hbw⟩ := hrel
      have HTK := Lib.hid htk
      clear htk
      by_cases hlt : k < l.length
      · have hlt2 : k < m.length := by rw [← HLEN.out]; exact hlt
        obtain ⟨a, ha⟩ : ∃ a, l[k]? = some a := ⟨_, List.getElem?_eq_getElem hlt⟩
        obtain ⟨b, hb⟩ : ∃ b, m[k]? = some b := ⟨_, List.getElem?_eq_getElem hlt2⟩
        obtain ⟨ad1, x1, y1, z1, rfl, hg1, hc1, p0, p1, p2⟩ := row3 sAt.len (sl_low HS1.out HB1.out (Lo.below hbw hB)) (HR1.out.imp fun a cs h => SRd.low (Lo.below hbw hB) h) ha
        obtain ⟨ad2, x2, y2, z2, rfl, hg2, hc2, q0, q1, q2⟩ := row3 sAt.len (sl_low HS2.out HB2.out (Lo.below hbw hB)) (HR2.out.imp fun a cs h => SRd.low (Lo.below hbw hB) h) hb
        have HC := Lib.hid (HG.out k a b ha hb _ _ _ _ _ _ wr.drew (hbw.trans (Below.refl _ _).drew) (SRd.low (Lo.below (Below.refl _ _).drew (Nat.le_trans hB hbw.size)) hc1) (SRd.low (Lo.below (Below.refl _ _).drew (Nat.le_trans hB hbw.size)) hc2))
        have HBW := Lib.hid hbw
        have HA := Lib.hid ha
        have HBb := Lib.hid hb
        obtain ⟨r, hr⟩ : ∃ r, eqB a b = r := ⟨_, rfl⟩
        rw [hr] at HC
        have HRR := Lib.hid hr
        have hS : wr.cell? (ad1.add (k * 3)) = some x1 ∧ wr.cell? ⟨(ad1.add (k * 3)).block, (ad1.add (k * 3)).off + 1, none⟩ = some y1 ∧ wr.cell? ⟨(ad1.add (k * 3)).block, (ad1.add (k * 3)).off + 2, none⟩ = some z1 ∧ wr.cell? (ad2.add (k * 3)) = some x2 ∧ wr.cell? ⟨(ad2.add (k * 3)).block, (ad2.add (k * 3)).off + 1, none⟩ = some y2 ∧ wr.cell? ⟨(ad2.add (k * 3)).block, (ad2.add (k * 3)).off + 2, none⟩ = some z2 := ⟨p0, p1, p2, q0, q1, q2⟩
        clear hc1 hc2 hbw ha hb hr
        go_wp2_with fail
        go_region_held3 (fun wy => wy.cell? (ad1.add (k * 3)) = some x1 ∧ wy.cell? ⟨(ad1.add (k * 3)).block, (ad1.add (k * 3)).off + 1, none⟩ = some y1 ∧ wy.cell? ⟨(ad1.add (k * 3)).block, (ad1.add (k * 3)).off + 2, none⟩ = some z1 ∧ wy.cell? (ad2.add (k * 3)) = some x2 ∧ wy.cell? ⟨(ad2.add (k * 3)).block, (ad2.add (k * 3)).off + 1, none⟩ = some y2 ∧ wy.cell? ⟨(ad2.add (k * 3)).block, (ad2.add (k * 3)).off + 2, none⟩ = some z2)
          (first | exact hS | exact ⟨cell_on hb1 p0, cell_on hb1 p1, cell_on hb1 p2, cell_on hb1 q0, cell_on hb1 q1, cell_on hb1 q2⟩ | go_keep)
          ((go_at_call 80; refine HC.out.mono ?_; rintro e w1 ⟨rfl, hb1⟩))
        cases r with
        | true =>
          go_wp2
          obtain rfl := eqB_iff.1 HRR.out
          refine ⟨⟨k + 1, ?_, by omega, eq_take_next HA.out HBb.out HTK.out, HBW.out.trans ((Below.refl _ _).drew.trans (hb1.mono HBW.out.size))⟩, ?_⟩
          · go_num
          · simp [intOf]; omega
        | false =>
          go_wp2
          go_ret
          exact ⟨by rw [eqB_no (eq_ne_at HA.out HBb.out (eqB_false HRR.out))]; rfl, HBW.out.trans ((Below.refl _ _).drew.trans (hb1.mono HBW.out.size))⟩
      · obtain rfl : k = l.length := by omega
        go_wp2
        go_ret
        have e : l = m := by
          have h := HTK.out
          rwa [List.take_length, HLEN.out, List.take_length] at h
        exact ⟨by rw [eqB_yes e]; rfl, hbw⟩
  · have hne : ((l.length : Int) == (m.length : Int)) = false := by rw [beq_eq_false_iff_ne]; omega
    have HE := Lib.hid (eqB_no (fun e : l = m => hlen (by rw [e])))
    go_enter Tryz.func79, Tryz.ntmps79
    go_wp2
    go_ret
    exact ⟨by rw [HE.out]; rfl, Below.refl _ _⟩

/-- Same, of messages within so many levels. -/
def SameH (B d : Nat) : Prop := ∀ (a b : Mg) (u1 u2 : Value) (w : World), B ≤ w.heap.size → MRd B w d a u1 → MRd B w d b u2 → Calls Tryz.prog 38 #[.agg #[u1], .agg #[u2]] w fun e w' => e = .returned (.bool (eqB a b)) ∧ Below w.heap.size w w'
theorem two_boxes (w : World) (o1 o2 : Obj) : ((w.alloc o1).alloc o2).heap[w.heap.size]? = some o1 ∧ ((w.alloc o1).alloc o2).heap[w.heap.size + 1]? = some o2 ∧ Below w.heap.size w ((w.alloc o1).alloc o2) := by
  have h1 := heap_alloc_new w o1
  have hs : (w.alloc o1).heap.size = w.heap.size + 1 := by simp
  have h2 := heap_alloc_new (w.alloc o1) o2
  rw [hs] at h2
  exact ⟨box_on h1 (below_new _ _), h2, below_lit (below_new w o1) o2⟩
theorem msgsP {B d : Nat} (H : SameH B d) {w : World} (hB : B ≤ w.heap.size) (l m : List Mg) : samemsgP B d w l m := fun k a b ha hb x1 x2 wr hw h1 h2 => H a b x1 x2 wr (Nat.le_trans hB hw.size) h1 h2
set_option maxRecDepth 1000000 in
set_option maxHeartbeats 4000000 in
theorem sameVal_any {B d : Nat} (H : SameH B d) (a b : Vl') (a1 b1 : Value) (w : World) (hB : B ≤ w.heap.size) (ha : VAt (Rd B w) d a [.int .i64 a.n, .string (tx a.s), a1]) (hb : VAt (Rd B w) d b [.int .i64 b.n, .string (tx b.s), b1]) :
    Calls Tryz.prog 123 #[.agg #[.int .i64 a.n, .string (tx a.s), a1], .agg #[.int .i64 b.n, .string (tx b.s), b1]] w fun e w' => e = .returned (.bool (eqB a b)) ∧ Below w.heap.size w w' := by
  obtain ⟨u1, hu1, hl⟩ := ha
  obtain ⟨u2, hu2, hm⟩ := hb
  simp only [List.cons.injEq, and_true, true_and] at hu1 hu2
  subst hu1 hu2
  have HM := Lib.hid (fun wx (hx : Below w.heap.size w wx) => same_msg B d a.M b.M a1 b1 wx (Nat.le_trans hB hx.size) (hl.low (Lo.below hx hB) fun a cs h => MRd.low (Lo.below hx hB) h) (hm.low (Lo.below hx hB) fun a cs h => MRd.low (Lo.below hx hB) h) (msgsP H (Nat.le_trans hB hx.size) _ _))
  rw [eqB_val]
  obtain ⟨r, hr⟩ : ∃ r, eqB a.M b.M = r := ⟨_, rfl⟩
  rw [hr] at HM ⊢
  obtain ⟨n1, hn1⟩ : ∃ n, a.n = n := ⟨_, rfl⟩
  obtain ⟨n2, hn2⟩ : ∃ n, b.n = n := ⟨_, rfl⟩
  obtain ⟨s1, hs1⟩ : ∃ n, a.s = n := ⟨_, rfl⟩
  obtain ⟨s2, hs2⟩ : ∃ n, b.s = n := ⟨_, rfl⟩
  rw [hn1, hn2, hs1, hs2]
  clear hn1 hn2 hs1 hs2 hr hl hm H
  obtain ⟨X1, X2, LBD⟩ := two_boxes w (.cells #[.int .i64 n1, .string (tx s1), a1] 31) (.cells #[.int .i64 n2, .string (tx s2), b1] 31)
  by_cases hn : n1 = n2
  · subst hn
    by_cases hs : s1 = s2
    · subst hs
      go_enter Tryz.func123, Tryz.ntmps123
      go_wp2_with (go_at_call 152; refine (HM.out _ LBD).mono ?_; rintro e wK ⟨rfl, hbK⟩)
      all_goals
        go_ret
        exact ⟨by simp, below_then LBD hbK⟩
    · have h : ((tx s1).toList == (tx s2).toList) = false := by
        rw [beq_eq_false_iff_ne, ByteArray.toList_eq, ByteArray.toList_eq, tx_list, tx_list]
        exact hs
      have h2 : decide (s1 = s2) = false := by simp [hs]
      rw [h2]
      clear hs h2
      go_enter Tryz.func123, Tryz.ntmps123
      go_wp2
      go_ret
      exact ⟨by simp, LBD⟩
  · have h2 : decide (n1 = n2) = false := by simp [hn]
    rw [h2]
    have h3 : (n1 == n2) = false := by simp [hn]
    go_enter Tryz.func123, Tryz.ntmps123
    go_wp2
    go_ret
    exact ⟨by simp, LBD⟩
theorem valsP {B d : Nat} (H : SameH B d) {w : World} (hB : B ≤ w.heap.size) (l m : List Vl') : samevalP B d w l m := fun k a b ha hb x1 y1 z1 x2 y2 z2 wr hw h1 h2 => by
  have h1' := h1
  have h2' := h2
  obtain ⟨u, hu, _⟩ := h1
  obtain ⟨u', hu', _⟩ := h2
  simp only [List.cons.injEq, and_true] at hu hu'
  obtain ⟨rfl, rfl, rfl⟩ := hu
  obtain ⟨rfl, rfl, rfl⟩ := hu'
  exact sameVal_any H a b z1 z2 wr (Nat.le_trans hB hw.size) h1' h2'
set_option maxRecDepth 1000000 in
set_option maxHeartbeats 4000000 in
theorem sameSlot_any {B d : Nat} (H : SameH B d) (a b : So) (a1 a2 b1 b2 : Value) (w : World) (hB : B ≤ w.heap.size) (ha : SAt' (Rd B w) d a [.int .i64 a.no, a1, a2]) (hb : SAt' (Rd B w) d b [.int .i64 b.no, b1, b2]) :
    Calls Tryz.prog 80 #[.agg #[.int .i64 a.no, a1, a2], .agg #[.int .i64 b.no, b1, b2]] w fun e w' => e = .returned (.bool (eqB a b)) ∧ Below w.heap.size w w' := by
  obtain ⟨u1, u2, hu, hk1, hv1⟩ := ha
  obtain ⟨u3, u4, hu', hk2, hv2⟩ := hb
  simp only [List.cons.injEq, and_true, true_and] at hu hu'
  obtain ⟨rfl, rfl⟩ := hu
  obtain ⟨rfl, rfl⟩ := hu'
  have HK := Lib.hid (fun wx (hx : Below w.heap.size w wx) => same_val B d a.K b.K a1 b1 wx (Nat.le_trans hB hx.size) (hk1.low (Lo.below hx hB) fun a cs h => VRd.low (Lo.below hx hB) h) (hk2.low (Lo.below hx hB) fun a cs h => VRd.low (Lo.below hx hB) h) (valsP H (Nat.le_trans hB hx.size) _ _))
  have HV := Lib.hid (fun wx (hx : Below w.heap.size w wx) => same_val B d a.V b.V a2 b2 wx (Nat.le_trans hB hx.size) (hv1.low (Lo.below hx hB) fun a cs h => VRd.low (Lo.below hx hB) h) (hv2.low (Lo.below hx hB) fun a cs h => VRd.low (Lo.below hx hB) h) (valsP H (Nat.le_trans hB hx.size) _ _))
  rw [eqB_slot]
  obtain ⟨rk, hrk⟩ : ∃ r, eqB a.K b.K = r := ⟨_, rfl⟩
  obtain ⟨rv, hrv⟩ : ∃ r, eqB a.V b.V = r := ⟨_, rfl⟩
  rw [hrk] at HK ⊢
  rw [hrv] at HV ⊢
  obtain ⟨n1, hn1⟩ : ∃ n, a.no = n := ⟨_, rfl⟩
  obtain ⟨n2, hn2⟩ : ∃ n, b.no = n := ⟨_, rfl⟩
  rw [hn1, hn2]
  clear hn1 hn2 hrk hrv hk1 hk2 hv1 hv2 H
  obtain ⟨X1, X2, LBD⟩ := two_boxes w (.cells #[.int .i64 n1, a1, a2] 36) (.cells #[.int .i64 n2, b1, b2] 36)
  by_cases hn : n1 = n2
  · subst hn
    cases rk with
    | true =>
      go_enter Tryz.func80, Tryz.ntmps80
      go_wp2_with (go_at_call 122; first
        | (with_reducible refine (HK.out _ LBD).mono ?_; rintro e wK ⟨rfl, hbK⟩; have y1 : wK.cell? ⟨w.heap.size, 2, none⟩ = some a2 := (bx3 (box_on X1 hbK)).2.2; have y2 : wK.cell? ⟨w.heap.size + 1, 2, none⟩ = some b2 := (bx3 (box_on X2 hbK)).2.2)
        | (with_reducible refine (HV.out _ (below_then LBD hbK)).mono ?_; rintro e wV ⟨rfl, hbV⟩))
      all_goals
        go_ret
        exact ⟨by simp, below_then (below_then LBD hbK) hbV⟩
    | false =>
      go_enter Tryz.func80, Tryz.ntmps80
      go_wp2_with (go_at_call 122; with_reducible refine (HK.out _ LBD).mono ?_; rintro e wK ⟨rfl, hbK⟩)
      go_ret
      exact ⟨by simp, below_then LBD hbK⟩
  · have h2 : decide (n1 = n2) = false := by simp [hn]
    rw [h2]
    have h3 : (n1 == n2) = false := by simp [hn]
    go_enter Tryz.func80, Tryz.ntmps80
    go_wp2
    go_ret
    exact ⟨by simp, LBD⟩
theorem slotsP {B d : Nat} (H : SameH B d) {w : World} (hB : B ≤ w.heap.size) (l m : List So) : sameslotP B d w l m := fun k a b ha hb x1 y1 z1 x2 y2 z2 wr hw h1 h2 => by
  have h1' := h1
  have h2' := h2
  obtain ⟨u, v, hu, _⟩ := h1
  obtain ⟨u', v', hu', _⟩ := h2
  simp only [List.cons.injEq, and_true] at hu hu'
  obtain ⟨rfl, rfl, rfl⟩ := hu
  obtain ⟨rfl, rfl, rfl⟩ := hu'
  exact sameSlot_any H a b y1 z1 y2 z2 wr (Nat.le_trans hB hw.size) h1' h2'
theorem same_step {B d : Nat} (H : SameH B d) : SameH B (d + 1) := by
  rintro a b u1 u2 w hB ⟨u, hu, hl⟩ ⟨u', hu', hm⟩
  simp only [List.cons.injEq, and_true] at hu hu'
  subst hu hu'
  obtain ⟨X1, X2, LBD⟩ := two_boxes w (.cells #[u1] 28) (.cells #[u2] 28)
  have hT := same_slot B d a.F b.F u1 u2 _ (Nat.le_trans hB LBD.size) (hl.low (Lo.below LBD hB) fun a cs h => SRd.low (Lo.below LBD hB) h) (hm.low (Lo.below LBD hB) fun a cs h => SRd.low (Lo.below LBD hB) h) (slotsP H (Nat.le_trans hB LBD.size) _ _)
  rw [eqB_msg]
  obtain ⟨q, hq⟩ : ∃ q, eqB a.F b.F = q := ⟨_, rfl⟩
  rw [hq] at hT ⊢
  have HT := Lib.hid hT
  clear hT hl hm hq H
  go_enter Tryz.func38, Tryz.ntmps38
  go_wp2_with (go_at_call 79; refine HT.out.mono ?_; rintro e w1 ⟨rfl, hb1⟩)
  go_ret
  exact ⟨rfl, LBD.trans (hb1.mono LBD.size)⟩
/-- value.Same, of any two messages. -/
theorem same_any9 (B : Nat) : ∀ d, SameH B d
  | 0 => fun _ _ _ _ _ _ h _ => h.elim
  | d + 1 => same_step (same_any9 B d)
end Go.Proofs.YtjmcpfckcajnjaaGreatDoor.T9
/-
  An enum that is resolved: the contract.
-/
namespace Go.Proofs.YtjmcpfckcajnjaaGreatDoor
set_option maxRecDepth 100000

open Go.RowKit Go.Maps

def enmR (e : En) : Ed := if (firstOf (vlErr e) e.V).isSome then ⟨[], [], []⟩ else enD e
theorem enmR_bad {e : En} {r : Int × Nat} (h : firstOf (vlErr e) e.V = some r) : enmR e = ⟨[], [], []⟩ := by unfold enmR; rw [h]; rfl
theorem infoEd : (Tryz.prog.info? 75).map (·.size) = some 3 := by kernel_rfl
theorem wpList_store_ed {ops : Array Oper} {rest : List Oper} {o : Oper} {a : Act} {w : World} {Q : Exit → Act → World → Prop} (hgd : o.guard = none) (x y : Operand) (ho : o.op = .store 75 x y)
    (hd : o.dst = none) (g : Nat) (v0 v1 v2 u0 u1 u2 : Value) (hx : a.eval x = .pointer (some ⟨g, 0, none⟩)) (hy : a.eval y = .agg #[v0, v1, v2]) (h0 : v0.oneCell' = true) (h1 : v1.oneCell' = true) (h2 : v2.oneCell' = true)
    (t : TypeId) (hg : w.heap[g]? = some (.cells #[u0, u1, u2] t (0, 0)))
    (h : wpList Tryz.prog ops Q rest a (w.setRow g #[v0, v1, v2])) : wpList Tryz.prog ops Q (o :: rest) a w :=
  wpList_store_rowTo hgd 75 x y ho hd g _ hx hy t _ hg infoEd rfl (by simp [h0, h1, h2]) h
theorem wpList_load_ed {ops : Array Oper} {rest : List Oper} {o : Oper} {a : Act} {w : World} {Q : Exit → Act → World → Prop} (hgd : o.guard = none) (x : Operand) (ho : o.op = .load 75 x)
    (g : Nat) (u0 u1 u2 : Value) (hx : a.eval x = .pointer (some ⟨g, 0, none⟩)) (t : TypeId) (fr : Nat × Nat) (hg : w.heap[g]? = some (.cells #[u0, u1, u2] t fr))
    (h : wpList Tryz.prog ops Q rest (a.put o.dst (.agg #[u0, u1, u2])) w) : wpList Tryz.prog ops Q (o :: rest) a w :=
  wpList_load_row hgd 75 x ho g hx t _ fr _ hg Tryz.underlying75 rfl infoEd h
theorem results_ed2 {fn : Func} {p u v : Tmp} (h : fn.results = #[.cell p 75, .tmp u, .tmp v]) (tmps : Array Value) (w : World) (g : Nat) (t : TypeId) (u0 u1 u2 : Value) (fr : Nat × Nat)
    (hp : tmps.getD p undef = .pointer (some ⟨g, 0, none⟩)) (hg : w.heap[g]? = some (.cells #[u0, u1, u2] t fr)) :
    (results fn tmps).run Tryz.prog w = .ok (.tuple #[.agg #[u0, u1, u2], tmps.getD u undef, tmps.getD v undef]) w :=
  results_row_tmp2 h tmps w g t _ fr _ hp hg Tryz.underlying75 rfl infoEd
theorem box3c {w : World} {g : Nat} {a b c : Value} {t : TypeId} (h : w.heap[g]? = some (.cells #[a, b, c] t (0, 0))) : w.heap[g]? = some (.cells #[a, b, c] t (0, 0)) ∧ w.cell? ⟨g, 0, none⟩ = some a ∧ w.cell? ⟨g, 1, none⟩ = some b ∧ w.cell? ⟨g, 2, none⟩ = some c :=
  ⟨h, by rw [heap_cell h 0]; rfl, by rw [heap_cell h 1]; rfl, by rw [heap_cell h 2]; rfl⟩
theorem box3c_below {w w' : World} {g : Nat} {a b c : Value} {t : TypeId} (hb : Below w.heap.size w w') (h : w.heap[g]? = some (.cells #[a, b, c] t (0, 0)) ∧ w.cell? ⟨g, 0, none⟩ = some a ∧ w.cell? ⟨g, 1, none⟩ = some b ∧ w.cell? ⟨g, 2, none⟩ = some c) : w'.heap[g]? = some (.cells #[a, b, c] t (0, 0)) ∧ w'.cell? ⟨g, 0, none⟩ = some a ∧ w'.cell? ⟨g, 1, none⟩ = some b ∧ w'.cell? ⟨g, 2, none⟩ = some c :=
  box3c ((hb.block g (Array.getElem?_eq_some_iff.1 h.1).1).trans h.1)
theorem box3c_cells {w : World} {g p : Nat} {a b c : Value} {t : TypeId} (u v x : Value) (hne : g ≠ p) (h : w.heap[g]? = some (.cells #[a, b, c] t (0, 0)) ∧ w.cell? ⟨g, 0, none⟩ = some a ∧ w.cell? ⟨g, 1, none⟩ = some b ∧ w.cell? ⟨g, 2, none⟩ = some c) :
    (((w.setCell ⟨p, 0, none⟩ u).setCell ⟨p, 1, none⟩ v).setCell ⟨p, 2, none⟩ x).heap[g]? = some (.cells #[a, b, c] t (0, 0)) ∧ (((w.setCell ⟨p, 0, none⟩ u).setCell ⟨p, 1, none⟩ v).setCell ⟨p, 2, none⟩ x).cell? ⟨g, 0, none⟩ = some a ∧ (((w.setCell ⟨p, 0, none⟩ u).setCell ⟨p, 1, none⟩ v).setCell ⟨p, 2, none⟩ x).cell? ⟨g, 1, none⟩ = some b ∧ (((w.setCell ⟨p, 0, none⟩ u).setCell ⟨p, 1, none⟩ v).setCell ⟨p, 2, none⟩ x).cell? ⟨g, 2, none⟩ = some c :=
  box3c (by rw [Below.heap_setCell _ _ _ _ hne, Below.heap_setCell _ _ _ _ hne, Below.heap_setCell _ _ _ _ hne]; exact h.1)
theorem zed {X w' : World} {cs : Array Value} {t : TypeId} (hb : Below (X.alloc (.cells cs t)).heap.size (X.alloc (.cells cs t)) w') : w'.heap[X.heap.size]? = some (.cells cs t (0, 0)) := (hb.block _ (by simp)).trans (heap_alloc_new X _)
theorem zedD {X w' : World} {cs : Array Value} {t : TypeId} (hb : Below ((X.alloc (.cells cs t)).drew).heap.size ((X.alloc (.cells cs t)).drew) w') : w'.heap[X.heap.size]? = some (.cells cs t (0, 0)) := (hb.block _ (by show _ < (X.alloc _).heap.size; simp)).trans (heap_alloc_new X _)
theorem zed_cells {w : World} {g : Nat} {t : TypeId} (h : w.heap[g]? = some (.cells #[.string ⟨#[]⟩, .slice none 0 0, .slice none 0 0] t (0, 0))) : w.cell? ⟨g, 0, none⟩ = some (.string ⟨#[]⟩) ∧ w.cell? ⟨g, 1, none⟩ = some (.slice none 0 0) ∧ w.cell? ⟨g, 2, none⟩ = some (.slice none 0 0) ∧ w.frozen? ⟨g, 0, none⟩ = false ∧ w.frozen? ⟨g, 1, none⟩ = false ∧ w.frozen? ⟨g, 2, none⟩ = false :=
  ⟨by rw [heap_cell h 0]; rfl, by rw [heap_cell h 1]; rfl, by rw [heap_cell h 2]; rfl, heap_free h 0, heap_free h 1, heap_free h 2⟩
theorem set3 {w : World} {g : Nat} {a b c : Value} {t : TypeId} (h : w.heap[g]? = some (.cells #[a, b, c] t (0, 0))) (u v x : Value) : ((((w.setCell ⟨g, 0, none⟩ u).setCell ⟨g, 1, none⟩ v).setCell ⟨g, 2, none⟩ x).drew).heap[g]? = some (.cells #[u, v, x] t (0, 0)) := by
  have h1 := heap_setCell_same h (j := 0) u
  have h2 := heap_setCell_same h1 (j := 1) v
  have h3 := heap_setCell_same h2 (j := 2) x
  show (((w.setCell ⟨g, 0, none⟩ u).setCell ⟨g, 1, none⟩ v).setCell ⟨g, 2, none⟩ x).heap[g]? = _
  simpa using h3
theorem below_set3 {w w' : World} {g : Nat} (h : Below w.heap.size w w') (hg : w.heap.size ≤ g) (u v x : Value) : Below w.heap.size w ((((w'.setCell ⟨g, 0, none⟩ u).setCell ⟨g, 1, none⟩ v).setCell ⟨g, 2, none⟩ x).drew) :=
  (((h.setCell hg u).setCell hg v).setCell hg x).trans (Below.refl _ _).drew
theorem heap_cells3 (w : World) {g p : Nat} (u v x : Value) (hne : g ≠ p) : (((w.setCell ⟨p, 0, none⟩ u).setCell ⟨p, 1, none⟩ v).setCell ⟨p, 2, none⟩ x).heap[g]? = w.heap[g]? := by
  rw [Below.heap_setCell _ _ _ _ hne, Below.heap_setCell _ _ _ _ hne, Below.heap_setCell _ _ _ _ hne]
theorem cells3_same {w : World} {g : Nat} {a b c : Value} {t : TypeId} (h : w.heap[g]? = some (.cells #[a, b, c] t (0, 0))) (u v x : Value) : (((w.setCell ⟨g, 0, none⟩ u).setCell ⟨g, 1, none⟩ v).setCell ⟨g, 2, none⟩ x).heap[g]? = some (.cells #[u, v, x] t (0, 0)) := by
  have h1 := heap_setCell_same h (j := 0) u
  have h2 := heap_setCell_same h1 (j := 1) v
  have h3 := heap_setCell_same h2 (j := 2) x
  simpa using h3
theorem cells3_grown (w : World) (g : Nat) (u v x : Value) : w.grownBy (((w.setCell ⟨g, 0, none⟩ u).setCell ⟨g, 1, none⟩ v).setCell ⟨g, 2, none⟩ x) (some g) := ((grown_set w g 0 u).trans (grown_set _ g 1 v)).trans (grown_set _ g 2 x)
theorem en_err {e : En} {r : Nat} (h1 : ∀ (k : Nat) x n, k < r → (e.V.map (·.name))[k]? = some x → (e.V.map (·.n))[k]? = some n → wrongB (e.V.map (·.name)) (e.V.map (·.n)) k x n = false) (h2 : ∀ x n, (e.V.map (·.name))[r]? = some x → (e.V.map (·.n))[r]? = some n → wrongB (e.V.map (·.name)) (e.V.map (·.n)) r x n = true) :
    (∀ v, e.V[r]? = some v → firstOf (vlErr e) e.V = some (v.at_, 4)) ∧ (e.V.length ≤ r → firstOf (vlErr e) e.V = none) := by
  have hb : ∀ k v, k < r → e.V[k]? = some v → vlErr e k v = none := by
    intro k v hk hv
    rw [wrong_vl, h1 k v.name v.n hk (by simp [hv]) (by simp [hv])]
    rfl
  constructor
  · intro v hv
    refine firstOf_at hb hv ?_
    rw [wrong_vl, h2 v.name v.n (by simp [hv]) (by simp [hv])]
    rfl
  · intro hr
    refine firstOf_none.2 fun k v hv => hb k v ?_ hv
    have := (List.getElem?_eq_some_iff.1 hv).1
    omega

end Go.Proofs.YtjmcpfckcajnjaaGreatDoor
/-
  May an enum be: the contract.
-/
namespace Go.Proofs.YtjmcpfckcajnjaaGreatDoor
set_option maxRecDepth 100000

open Go.RowKit Go.Maps

set_option maxRecDepth 1000000 in
set_option maxHeartbeats 8000000 in
theorem mayEnum_any (B : Nat) (e : Ed) (vV vN : Value) (w : World) (hB : B ≤ w.heap.size) (hV : Rb B w vV e.V.length 1 (strv e.V)) (hN : Rb B w vN e.N.length 1 (intv e.N)) (hin : EdIn e) :
    Calls Tryz.prog 71 #[.agg #[.string (txt e.name), vV, vN]] w fun ee w' => ∃ b, ee = .returned (.bool b) ∧ (b = true ↔ EdMay e) ∧ Below w.heap.size w w' := by
  have HWR := Lib.hid (fun wx (hx : Below w.heap.size w wx) (hlen : e.V.length = e.N.length) (hl : e.N.length ≤ 100000) => wrong_any B vV vN e.V e.N wx (Nat.le_trans hB hx.size) (hV.low (Low.below hx hB)) (hN.low (Low.below hx hB)) hlen hl hin.V hin.N)
  obtain ⟨A1, q1, rfl, -, -⟩ := hV
  obtain ⟨A2, q2, rfl, -, -⟩ := hN
  have HI := Lib.hid (edMay_iff e)
  have HMN := Lib.hid (fun wx => mayName_any (e.V.length : Int) wx)
  have hb0 : Below w.heap.size w ((w.alloc (.cells #[.string (txt e.name), .slice A1 e.V.length q1, .slice A2 e.N.length q2] 75)).drew) := (below_new _ _).trans (Below.refl _ _).drew
  have h0 := box3c (w := (w.alloc (.cells #[.string (txt e.name), .slice A1 e.V.length q1, .slice A2 e.N.length q2] 75)).drew) (heap_alloc_new w (.cells #[.string (txt e.name), .slice A1 e.V.length q1, .slice A2 e.N.length q2] 75))
  clear hin
  by_cases ha : 1 ≤ e.V.length ∧ e.V.length ≤ 30
  · have h1 : (decide (1 ≤ (e.V.length : Int)) && decide ((e.V.length : Int) ≤ 30)) = true := by
      simp only [Bool.and_eq_true, decide_eq_true_eq]; omega
    rw [h1] at HMN
    by_cases hl : e.V.length = e.N.length
    · have HW2 := Lib.hid (HWR.out _ hb0 hl (by omega))
      have he : ((e.V.length : Int) == (e.N.length : Int)) = true := by rw [beq_iff_eq]; omega
      have HHL := Lib.hid hl
      have HHA := Lib.hid ha
      clear h1 ha hl HWR
      go_enter Tryz.func71, Tryz.ntmps71
      go_wp2_with fail
      go_region_held3 (fun w' => w'.heap[w.heap.size]? = some (.cells #[.string (txt e.name), .slice A1 e.V.length q1, .slice A2 e.N.length q2] 75 (0, 0)) ∧ w'.cell? ⟨w.heap.size, 0, none⟩ = some (.string (txt e.name)) ∧ w'.cell? ⟨w.heap.size, 1, none⟩ = some (.slice A1 e.V.length q1) ∧ w'.cell? ⟨w.heap.size, 2, none⟩ = some (.slice A2 e.N.length q2))
        (first | exact h0 | exact box3c_below hb6 ‹_› | go_keep)
        ((first
          | (go_at_call 115; refine (HMN.out _).mono ?_; rintro ee w1 ⟨rfl, rfl⟩)
          | (go_at_call 116; refine HW2.out.mono ?_; rintro ee w6 ⟨r, rfl, hr1, hr2, hr3, hb6⟩)))
      go_wp2
      go_ret
      refine ⟨_, rfl, ?_, below_then hb0 hb6⟩
      rw [HI.out]
      show ((r : Int) == (e.V.length : Int)) = true ↔ _
      rw [beq_iff_eq]
      constructor
      · intro hr
        refine ⟨HHA.out.1, HHA.out.2, HHL.out, fun k x n hx hn => hr2 k x n ?_ hx hn⟩
        have := (List.getElem?_eq_some_iff.1 hx).1
        omega
      · rintro ⟨-, -, -, h4⟩
        by_cases hlt : r < e.V.length
        · have hlt2 : r < e.N.length := by have := HHL.out; omega
          have h5 := h4 r _ _ (List.getElem?_eq_getElem hlt) (List.getElem?_eq_getElem hlt2)
          rw [hr3 _ _ (List.getElem?_eq_getElem hlt) (List.getElem?_eq_getElem hlt2)] at h5
          cases h5
        · have := HHL.out
          omega
    · have he : ((e.V.length : Int) == (e.N.length : Int)) = false := by rw [beq_eq_false_iff_ne]; omega
      have HNO : Hid (¬ EdMay e) := Lib.hid (fun h => hl (HI.out.1 h).2.2.1)
      have hl2 : ¬ ((e.V.length : Int) = (e.N.length : Int)) := by omega
      clear h1 ha HWR
      go_enter Tryz.func71, Tryz.ntmps71
      go_wp2_with fail
      go_quiet (first | (go_at_call_of 115 (Value.int IntKind.i64 (e.V.length : Int)); refine Calls.quiet_of_same ((HMN.out _).mono fun _ _ h => ⟨h.1, h.2.symm⟩)))
      go_wp2
      go_ret
      exact ⟨false, rfl, ⟨fun h => (by cases h), fun h => absurd h HNO.out⟩, below_draws (below_new _ _) _⟩
  · have h1 : (decide (1 ≤ (e.V.length : Int)) && decide ((e.V.length : Int) ≤ 30)) = false := by
      simp only [Bool.and_eq_false_iff, decide_eq_false_iff_not]; omega
    rw [h1] at HMN
    have HNO : Hid (¬ EdMay e) := Lib.hid (fun h => ha ⟨(HI.out.1 h).1, (HI.out.1 h).2.1⟩)
    clear h1 ha HWR
    go_enter Tryz.func71, Tryz.ntmps71
    go_wp2_with fail
    go_quiet (first | (go_at_call_of 115 (Value.int IntKind.i64 (e.V.length : Int)); refine Calls.quiet_of_same ((HMN.out _).mono fun _ _ h => ⟨h.1, h.2.symm⟩)))
    go_wp2
    go_ret
    exact ⟨false, rfl, ⟨fun h => (by cases h), fun h => absurd h HNO.out⟩, below_draws (below_new _ _) _⟩
end Go.Proofs.YtjmcpfckcajnjaaGreatDoor
