/-
  Messages, slots and values as arguments: how they lie there.
-/
import Derived.Test.YtjmcpfckcajnjaaTrRows
import Derived.Deep.Slices
import Derived.SizedLaws
namespace Go.Proofs.Ytjmcpfckcajnjaa.T9
set_option maxRecDepth 100000

open Go.RowKit Go.ChangeShapes Go.WideShapes Go.ChangeAt

section

variable {H : Type} {enc : TypeId × Value → H} {W : World} {n : Nat}

/-- A datum, and all within it, fit the form's memory. -/
def Szd (t : TypeId) (d : DataW H) : Prop := ∀ k ∈ DataW.weights Try.prog t d, k ≤ reachBytes
theorem Szd.slice {t e : TypeId} {es sp : List (DataW H)} (ht : Try.prog.underlying t = some (.slice e)) (h : Szd t (.slice es sp)) : (es.length + sp.length) * Try.prog.bytesOf e ≤ reachBytes ∧ ∀ d ∈ es, Szd e d := by
  unfold Szd at h
  simp only [DataW.weights, ht] at h
  refine ⟨h _ (by simp), fun d hd k hk => h k ?_⟩
  have key : ∀ (l : List (DataW H)), d ∈ l → k ∈ DataW.weightsAll Try.prog e l := by
    intro l
    induction l with
    | nil => intro h; cases h
    | cons x l ih =>
      intro hx
      simp only [DataW.weightsAll, List.mem_append]
      rcases List.mem_cons.1 hx with rfl | hx
      · exact .inl hk
      · exact .inr (ih hx)
  simp [key es hd]
theorem szd_each : ∀ {ts : List TypeId} {ds : List (DataW H)}, (∀ k ∈ DataW.weightsEach Try.prog ts ds, k ≤ reachBytes) → ∀ (j : Nat) t d, ts[j]? = some t → ds[j]? = some d → Szd t d
  | [], _, _, j, t, d, h1, _ => by simp at h1
  | t0 :: ts, [], _, j, t, d, _, h2 => by simp at h2
  | t0 :: ts, d0 :: ds, h, 0, t, d, h1, h2 => by
    obtain rfl : t0 = t := by simpa using h1
    obtain rfl : d0 = d := by simpa using h2
    exact fun k hk => h k (by simp only [DataW.weightsEach, List.mem_append]; exact .inl hk)
  | t0 :: ts, d0 :: ds, h, j + 1, t, d, h1, h2 => szd_each (ts := ts) (ds := ds) (fun k hk => h k (by simp only [DataW.weightsEach, List.mem_append]; exact .inr hk)) j t d (by simpa using h1) (by simpa using h2)
theorem Szd.struct {t : TypeId} {fs : Array Field} {parts : List (DataW H)} (ht : Try.prog.underlying t = some (.struct fs)) (h : Szd t (.agg parts)) (j : Nat) {f : Field} {d : DataW H} (hf : fs[j]? = some f) (hd : parts[j]? = some d) : Szd f.type d := by
  unfold Szd at h
  simp only [DataW.weights, ht] at h
  exact szd_each h j _ _ (by simp [hf]) hd
theorem sz_mem {es sp : List (DataW H)} {d : DataW H} (h : d ∈ es) : SizeOf.sizeOf d < SizeOf.sizeOf (DataW.slice es sp) := by
  have := List.sizeOf_lt_of_mem h
  simp only [DataW.slice.sizeOf_spec]
  omega
theorem sz_part {parts : List (DataW H)} {d : DataW H} (h : d ∈ parts) : SizeOf.sizeOf d < SizeOf.sizeOf (DataW.agg parts) := by
  have := List.sizeOf_lt_of_mem h
  simp only [DataW.agg.sizeOf_spec]
  omega
/-- A slice whose elements are read one by one, each a lesser datum. -/
theorem open_lesser {α : Type} [Inhabited α] {t e : TypeId} {size : Nat} {v : Value} {x : DataW H × List MemPlace} (ht : Try.prog.underlying t = some (.slice e)) (hc : Try.prog.cellsOf e = size) (hpos : 0 < size) (hby : 15 ≤ Try.prog.bytesOf e)
    (C : α → List Value → Prop) (hone : ∀ (n : Nat) (cs : List Value) (y : DataW H × List MemPlace), cs.length = size → DataW.trod enc Try.prog W 0 (fun _ => true) true n e cs = some y → SizeOf.sizeOf y.1 < SizeOf.sizeOf x.1 → Szd e y.1 → ∃ a, C a cs)
    (h : DataW.trod enc Try.prog W 0 (fun _ => true) true n t [v] = some x) (hz : Szd t x.1) :
    ∃ (l : List α), LsAt (Rd W.heap.size W) e size C l v := by
  rcases Deep.open_slice ht h with ⟨h0, _⟩ | ⟨a, len, cap, m, k, D, Pl, h0, _, hl, hm, hmm, hx0, hx⟩
  · have hv : v = .slice none 0 0 := by simpa using h0
    subst hv
    exact ⟨[], [], ⟨Rr.nil _ _ _, by simp⟩, rfl⟩
  · have hv : v = .slice (some a) len cap := by simpa using h0
    subst hv
    have hlm : len ≤ m := by rw [hmm]; split <;> omega
    rw [hc] at hx
    subst hx0
    obtain ⟨hz1, hz2⟩ := hz.slice ht
    have hln : len ≤ 10000000000000 := by
      have h1 : (List.map D (List.range len)).length = len := by simp
      rw [h1] at hz1
      have : len * 15 ≤ reachBytes := Nat.le_trans (Nat.mul_le_mul (Nat.le_add_right _ _) hby) hz1
      unfold reachBytes at this
      omega
    have hy : ∀ i, i < len → ∃ y : α × List Value, C y.1 y.2 ∧ y.2.length = size ∧ W.cells? 0 (a.add (i * size)) size = some y.2 := fun i hi => by
      obtain ⟨cs, h1, h2⟩ := hx i (by omega)
      have hl2 := (World.cells?_some h1).2.1
      have hmem : D i ∈ List.map D (List.range len) := List.mem_map.2 ⟨i, List.mem_range.2 hi, rfl⟩
      obtain ⟨b, hb⟩ := hone k cs _ hl2 h2 (sz_mem hmem) (hz2 _ hmem)
      exact ⟨(b, cs), hb, hl2, h1⟩
    obtain ⟨f, hf⟩ := Deep.choose_lt hy
    have hget : ∀ (L : List Nat) (i : Nat), (∀ j ∈ L, j < len) → i < L.length → ∀ q, q < size → ((L.map f).flatMap Prod.snd)[i * size + q]? = (f (L.getD i 0)).2[q]? := by
      intro L
      induction L with
      | nil => intro i _ hi; simp at hi
      | cons j L ih =>
        intro i hL hi q hq
        have hj := (hf j (hL j (by simp))).2.1
        cases i with
        | zero =>
          rw [List.map_cons, List.flatMap_cons, Nat.zero_mul, Nat.zero_add, List.getElem?_append_left (by omega)]
          rfl
        | succ i =>
          rw [List.map_cons, List.flatMap_cons, List.getElem?_append_right (by rw [hj, Nat.succ_mul]; omega), hj, show (i + 1) * size + q - size = i * size + q by rw [Nat.succ_mul]; omega]
          exact ih i (fun x hx => hL x (by simp [hx])) (by simpa using hi) q hq
    have hlen : ∀ (L : List Nat), (∀ j ∈ L, j < len) → ((L.map f).flatMap Prod.snd).length = L.length * size := by
      intro L
      induction L with
      | nil => intro _; simp
      | cons j L ih =>
        intro hL
        have hj := (hf j (hL j (by simp))).2.1
        rw [List.map_cons, List.flatMap_cons, List.length_append, hj, ih (fun x hx => hL x (by simp [hx])), List.length_cons, Nat.succ_mul]
        omega
    have hr : ∀ j ∈ List.range len, j < len := fun j hj => List.mem_range.1 hj
    have hcell : ∀ k u, (((List.range len).map f).flatMap Prod.snd)[k]? = some u → W.cell? (a.add k) = some u := by
      intro k u hu
      have hk : k < len * size := by
        have := (List.getElem?_eq_some_iff.1 hu).1
        rw [hlen _ hr, List.length_range] at this
        exact this
      have hi : k / size < len := (Nat.div_lt_iff_lt_mul hpos).2 hk
      have hq : k % size < size := Nat.mod_lt _ hpos
      have hk2 : k = k / size * size + k % size := by rw [Nat.mul_comm]; exact (Nat.div_add_mod k size).symm
      rw [hk2, hget (List.range len) (k / size) hr (by simpa using hi) _ hq] at hu
      have e : (List.range len).getD (k / size) 0 = k / size := by rw [List.getD_eq_getElem?_getD, List.getElem?_range hi]; rfl
      rw [e] at hu
      have h1 := (World.cells?_some (hf (k / size) hi).2.2).2.2 (k % size) hq
      rw [hu, add_twice, ← hk2] at h1
      exact h1
    have hold : ∀ ad, (some a : Option Addr) = some ad → 0 < len → ad.block < W.heap.size := fun ad ha h0 => by
      obtain rfl := Option.some.inj ha
      have h1 := (World.cells?_some (hf 0 h0).2.2).2.2 0 hpos
      have h2 := (hf 0 h0).2.1
      rw [List.getElem?_eq_getElem (by omega)] at h1
      have hb := World.block_lt_of_cell? W _ h1
      rwa [add_same_block, add_same_block] at hb
    have hrows : ∀ (L : List Nat), (∀ j ∈ L, j < len) → Rows C ((L.map f).map Prod.fst) ((L.map f).flatMap Prod.snd) := by
      intro L
      induction L with
      | nil => intro _; rfl
      | cons j L ih => intro hL; exact ⟨(f j).2, _, rfl, (hf j (hL j (by simp))).1, ih fun x hx => hL x (by simp [hx])⟩
    refine ⟨((List.range len).map f).map Prod.fst, ((List.range len).map f).flatMap Prod.snd, ⟨⟨some a, cap, by simp, ⟨by rw [hlen _ hr]; simp, by simpa using hl, hm, by simp, fun ad ha hn => hold ad ha (by simpa using hn), fun ad ha k u hu => ?_⟩, fun ad ha hn => hold ad ha (by simpa using hn)⟩, by simpa using hln⟩, hrows _ hr⟩
    obtain rfl := Option.some.inj ha
    exact hcell k u hu
theorem tr_list3 {α : Type} {l : List α} (h : l.length = 3) : ∃ a b c, l = [a, b, c] := by
  match l, h with
  | [a, b, c], _ => exact ⟨a, b, c, rfl⟩
theorem tr_list1 {α : Type} {l : List α} (h : l.length = 1) : ∃ a, l = [a] := by
  match l, h with
  | [a], _ => exact ⟨a, rfl⟩
theorem tr_string {v : Value} {y : DataW H × List MemPlace} (h : DataW.trod enc Try.prog W 0 (fun _ => true) true n 9 [v] = some y) : ∃ x : List UInt8, v = .string (tx x) := by
  obtain ⟨s, h1, _, h2⟩ := DataW.trod_string Try.underlying9 h
  exact ⟨s.data.toList, by rw [tx_of]; simpa using h1⟩
theorem tr_int {v : Value} {y : DataW H × List MemPlace} (h : DataW.trod enc Try.prog W 0 (fun _ => true) true n 3 [v] = some y) : ∃ k : Int, v = .int .i64 k := by
  obtain ⟨k, h1, _, h2⟩ := DataW.trod_int Try.underlying3 h
  exact ⟨k, by simpa using h1⟩
theorem tr_int64 {v : Value} {y : DataW H × List MemPlace} (h : DataW.trod enc Try.prog W 0 (fun _ => true) true n 2 [v] = some y) : ∃ k : Int, v = .int .i64 k := by
  obtain ⟨k, h1, _, h2⟩ := DataW.trod_int Try.underlying2 h
  exact ⟨k, by simpa using h1⟩
theorem kt_string : Try.prog.cellsOf 9 = 1 := by kernel_rfl
theorem kt_int : Try.prog.cellsOf 3 = 1 := by kernel_rfl
theorem kt_int64 : Try.prog.cellsOf 2 = 1 := by kernel_rfl
theorem kt_slot : Try.prog.cellsOf 27 = 3 := by kernel_rfl
theorem kt_val : Try.prog.cellsOf 30 = 3 := by kernel_rfl
theorem kt_msg : Try.prog.cellsOf 24 = 1 := by kernel_rfl
theorem kt_slots : Try.prog.cellsOf 22 = 1 := by kernel_rfl
theorem kt_vals : Try.prog.cellsOf 25 = 1 := by kernel_rfl
theorem kt_msgs : Try.prog.cellsOf 28 = 1 := by kernel_rfl
theorem kb_slot : 15 ≤ Try.prog.bytesOf 27 := by decide +kernel
theorem kb_val : 15 ≤ Try.prog.bytesOf 30 := by decide +kernel
theorem kb_msg : 15 ≤ Try.prog.bytesOf 24 := by decide +kernel
theorem open_val {N : Nat} (ih : ∀ (n : Nat) (cs : List Value) (y : DataW H × List MemPlace), cs.length = 1 → DataW.trod enc Try.prog W 0 (fun _ => true) true n 24 cs = some y → SizeOf.sizeOf y.1 < N → Szd 24 y.1 → ∃ m, MAt (Rd W.heap.size W) N m cs)
    {cs : List Value} {y : DataW H × List MemPlace} (hl : cs.length = 3) (h : DataW.trod enc Try.prog W 0 (fun _ => true) true n 30 cs = some y) (hy : SizeOf.sizeOf y.1 < N + 2) (hz : Szd 30 y.1) : ∃ v, VAt (Rd W.heap.size W) N v cs := by
  obtain ⟨xs, k, -, hx0, -, hxl, hg⟩ := DataW.trod_struct Try.underlying30 h
  obtain ⟨x0, x1, x2, rfl⟩ := tr_list3 (show xs.length = 3 from hxl)
  obtain ⟨v0, v1, v2, rfl⟩ := tr_list3 hl
  have g0 : DataW.trod enc Try.prog W 0 (fun _ => true) true k 2 (List.take (Try.prog.cellsOf 2) [v0, v1, v2]) = some x0 := hg 0 _ rfl
  have g1 : DataW.trod enc Try.prog W 0 (fun _ => true) true k 9 (List.take (Try.prog.cellsOf 9) [v1, v2]) = some x1 := hg 1 _ rfl
  have g2 : DataW.trod enc Try.prog W 0 (fun _ => true) true k 28 (List.take (Try.prog.cellsOf 28) [v2]) = some x2 := hg 2 _ rfl
  rw [kt_int64] at g0
  rw [kt_string] at g1
  rw [kt_msgs] at g2
  obtain ⟨a0, rfl⟩ := tr_int64 g0
  obtain ⟨a1, rfl⟩ := tr_string g1
  subst hx0
  have hz2 : Szd 28 x2.1 := hz.struct Try.underlying30 2 rfl rfl
  have hlt : SizeOf.sizeOf x2.1 < _ := sz_part (parts := [x0.1, x1.1, x2.1]) (by simp : x2.1 ∈ _)
  obtain ⟨M, hM⟩ := open_lesser Try.underlying28 kt_msg (by decide) kb_msg (fun m cs => MAt (Rd W.heap.size W) N m cs) (fun n cs y hl h hy hz => ih n cs y hl h (by simp only [List.map_cons, List.map_nil] at *; omega) hz) (show DataW.trod enc Try.prog W 0 (fun _ => true) true k 28 [v2] = some x2 from g2) hz2
  exact ⟨⟨a0, a1, M⟩, v2, rfl, hM⟩
theorem open_slot {N : Nat} (ih : ∀ (n : Nat) (cs : List Value) (y : DataW H × List MemPlace), cs.length = 1 → DataW.trod enc Try.prog W 0 (fun _ => true) true n 24 cs = some y → SizeOf.sizeOf y.1 < N → Szd 24 y.1 → ∃ m, MAt (Rd W.heap.size W) N m cs)
    {cs : List Value} {y : DataW H × List MemPlace} (hl : cs.length = 3) (h : DataW.trod enc Try.prog W 0 (fun _ => true) true n 27 cs = some y) (hy : SizeOf.sizeOf y.1 < N + 3) (hz : Szd 27 y.1) : ∃ s, SAt' (Rd W.heap.size W) N s cs := by
  obtain ⟨xs, k, -, hx0, -, hxl, hg⟩ := DataW.trod_struct Try.underlying27 h
  obtain ⟨x0, x1, x2, rfl⟩ := tr_list3 (show xs.length = 3 from hxl)
  obtain ⟨v0, v1, v2, rfl⟩ := tr_list3 hl
  have g0 : DataW.trod enc Try.prog W 0 (fun _ => true) true k 3 (List.take (Try.prog.cellsOf 3) [v0, v1, v2]) = some x0 := hg 0 _ rfl
  have g1 : DataW.trod enc Try.prog W 0 (fun _ => true) true k 25 (List.take (Try.prog.cellsOf 25) [v1, v2]) = some x1 := hg 1 _ rfl
  have g2 : DataW.trod enc Try.prog W 0 (fun _ => true) true k 25 (List.take (Try.prog.cellsOf 25) [v2]) = some x2 := hg 2 _ rfl
  rw [kt_int] at g0
  rw [kt_vals] at g1 g2
  obtain ⟨a0, rfl⟩ := tr_int g0
  subst hx0
  have hz1 : Szd 25 x1.1 := hz.struct Try.underlying27 1 rfl rfl
  have hz2 : Szd 25 x2.1 := hz.struct Try.underlying27 2 rfl rfl
  have hlt1 : SizeOf.sizeOf x1.1 < _ := sz_part (parts := [x0.1, x1.1, x2.1]) (by simp : x1.1 ∈ _)
  have hlt2 : SizeOf.sizeOf x2.1 < _ := sz_part (parts := [x0.1, x1.1, x2.1]) (by simp : x2.1 ∈ _)
  obtain ⟨K, hK⟩ := open_lesser Try.underlying25 kt_val (by decide) kb_val (fun m cs => VAt (Rd W.heap.size W) N m cs) (fun n cs y hl h hy hz => open_val ih hl h (by simp only [List.map_cons, List.map_nil] at *; omega) hz) (show DataW.trod enc Try.prog W 0 (fun _ => true) true k 25 [v1] = some x1 from g1) hz1
  obtain ⟨V, hV⟩ := open_lesser Try.underlying25 kt_val (by decide) kb_val (fun m cs => VAt (Rd W.heap.size W) N m cs) (fun n cs y hl h hy hz => open_val ih hl h (by simp only [List.map_cons, List.map_nil] at *; omega) hz) (show DataW.trod enc Try.prog W 0 (fun _ => true) true k 25 [v2] = some x2 from g2) hz2
  exact ⟨⟨a0, K, V⟩, v1, v2, rfl, hK, hV⟩
theorem open_msg0 : ∀ (N n : Nat) (cs : List Value) (y : DataW H × List MemPlace), cs.length = 1 → DataW.trod enc Try.prog W 0 (fun _ => true) true n 24 cs = some y → SizeOf.sizeOf y.1 < N → Szd 24 y.1 → ∃ m, MAt (Rd W.heap.size W) N m cs
  | 0, _, _, _, _, _, h, _ => by omega
  | N + 1, n, cs, y, hl, h, hy, hz => by
    obtain ⟨xs, k, -, hx0, -, hxl, hg⟩ := DataW.trod_struct Try.underlying24 h
    obtain ⟨x0, rfl⟩ := tr_list1 (show xs.length = 1 from hxl)
    obtain ⟨v0, rfl⟩ := tr_list1 hl
    have g0 : DataW.trod enc Try.prog W 0 (fun _ => true) true k 22 (List.take (Try.prog.cellsOf 22) [v0]) = some x0 := hg 0 _ rfl
    rw [kt_slots] at g0
    subst hx0
    have hz1 : Szd 22 x0.1 := hz.struct Try.underlying24 0 rfl rfl
    have hlt1 : SizeOf.sizeOf x0.1 < _ := sz_part (parts := [x0.1]) (by simp : x0.1 ∈ _)
    obtain ⟨F, hF⟩ := open_lesser Try.underlying22 kt_slot (by decide) kb_slot (fun m cs => SAt' (Rd W.heap.size W) N m cs) (fun n cs y hl h hy hz => open_slot (open_msg0 N) hl h (by simp only [List.map_cons, List.map_nil] at *; omega) hz) (show DataW.trod enc Try.prog W 0 (fun _ => true) true k 22 [v0] = some x0 from g0) hz1
    exact ⟨.mk F, v0, rfl, hF⟩
/-- A message that comes in. -/
theorem open_msg {base : Nat} {v : Value} {d : DataW H} {ps : List MemPlace}
    (hval : Value.okWide Try.prog W .any base 24 v) (h : DataW.Trod enc Try.prog W 0 (fun _ => true) true 24 v d ps) (hz : Szd 24 d) :
    ∃ (m : Mg) (u : Value) (k : Nat), v = .agg #[u] ∧ MRd W.heap.size W k m u := by
  obtain ⟨cs, rfl, hsz⟩ := okWide_struct Try.underlying24 hval
  obtain ⟨l⟩ := cs
  obtain ⟨fuel, hf⟩ := h
  obtain ⟨xs, k, -, -, hlen, hxl, hg⟩ := DataW.trod_struct Try.underlying24 hf
  have hl1 : l.length = 1 := by rw [kt_msg] at hlen; simpa [Value.cells] using hlen
  obtain ⟨u, rfl⟩ := tr_list1 hl1
  obtain ⟨m, hm⟩ := open_msg0 (SizeOf.sizeOf d + 1) fuel [u] (d, ps) rfl (by simpa [Value.cells] using hf) (Nat.lt_succ_self _) hz
  exact ⟨m, u, _, rfl, hm⟩
/-- A slot that comes in. -/
theorem open_sl {base : Nat} {v : Value} {d : DataW H} {ps : List MemPlace}
    (hval : Value.okWide Try.prog W .any base 27 v) (h : DataW.Trod enc Try.prog W 0 (fun _ => true) true 27 v d ps) (hz : Szd 27 d) :
    ∃ (s : So) (u1 u2 : Value) (k : Nat), v = .agg #[.int .i64 s.no, u1, u2] ∧ SAt' (Rd W.heap.size W) k s [.int .i64 s.no, u1, u2] := by
  obtain ⟨cs, rfl, hsz⟩ := okWide_struct Try.underlying27 hval
  obtain ⟨l⟩ := cs
  obtain ⟨fuel, hf⟩ := h
  obtain ⟨xs, k, -, -, hlen, hxl, hg⟩ := DataW.trod_struct Try.underlying27 hf
  have hl1 : l.length = 3 := by rw [kt_slot] at hlen; simpa [Value.cells] using hlen
  obtain ⟨s, hs⟩ := open_slot (open_msg0 (SizeOf.sizeOf d + 1)) (y := (d, ps)) hl1 (by simpa [Value.cells] using hf) (show SizeOf.sizeOf d < _ by omega) hz
  obtain ⟨u1, u2, rfl, h2⟩ := id hs
  exact ⟨s, u1, u2, _, rfl, hs⟩
/-- A value that comes in. -/
theorem open_va {base : Nat} {v : Value} {d : DataW H} {ps : List MemPlace}
    (hval : Value.okWide Try.prog W .any base 30 v) (h : DataW.Trod enc Try.prog W 0 (fun _ => true) true 30 v d ps) (hz : Szd 30 d) :
    ∃ (s : Vl') (u : Value) (k : Nat), v = .agg #[.int .i64 s.n, .string (tx s.s), u] ∧ VAt (Rd W.heap.size W) k s [.int .i64 s.n, .string (tx s.s), u] := by
  obtain ⟨cs, rfl, hsz⟩ := okWide_struct Try.underlying30 hval
  obtain ⟨l⟩ := cs
  obtain ⟨fuel, hf⟩ := h
  obtain ⟨xs, k, -, -, hlen, hxl, hg⟩ := DataW.trod_struct Try.underlying30 hf
  have hl1 : l.length = 3 := by rw [kt_val] at hlen; simpa [Value.cells] using hlen
  obtain ⟨s, hs⟩ := open_val (open_msg0 (SizeOf.sizeOf d + 1)) (y := (d, ps)) hl1 (by simpa [Value.cells] using hf) (show SizeOf.sizeOf d < _ by omega) hz
  obtain ⟨u, rfl, h2⟩ := id hs
  exact ⟨s, u, _, rfl, hs⟩
/-- Messages that come in. -/
theorem open_msgs {base : Nat} {v : Value} {d : DataW H} {ps : List MemPlace}
    (hval : Value.okWide Try.prog W .any base 28 v) (h : DataW.Trod enc Try.prog W 0 (fun _ => true) true 28 v d ps) (hz : Szd 28 d) :
    ∃ (l : List Mg) (k : Nat), LsAt (Rd W.heap.size W) 24 1 (MAt (Rd W.heap.size W) k) l v := by
  obtain ⟨a0, len, cap, rfl⟩ := okWide_slice Try.underlying28 hval
  obtain ⟨fuel, hf⟩ := h
  obtain ⟨l, hl⟩ := open_lesser Try.underlying28 kt_msg (by decide) kb_msg (fun m cs => MAt (Rd W.heap.size W) (SizeOf.sizeOf d + 1) m cs) (fun n cs y hl h hy hz => open_msg0 _ n cs y hl h (Nat.lt_succ_of_lt hy) hz) (show DataW.trod enc Try.prog W 0 (fun _ => true) true fuel 28 [.slice a0 len cap] = some (d, ps) by simpa [Value.cells] using hf) hz
  exact ⟨l, _, hl⟩
end

end Go.Proofs.Ytjmcpfckcajnjaa.T9
