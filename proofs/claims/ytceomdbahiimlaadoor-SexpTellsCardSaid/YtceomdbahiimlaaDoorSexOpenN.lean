/-
  A node that comes in.
-/
import Derived.Test.YtceomdbahiimlaaDoorSexSize
import Derived.Test.YtceomdbahiimlaaDoorTied
namespace Go.Proofs.YtceomdbahiimlaaDoor.T14
set_option maxRecDepth 100000

open Go.RowKit Go.ChangeShapes Go.WideShapes Go.ChangeAt

section

variable {H : Type} {enc : TypeId × Value → H} {W : World} {n : Nat}

theorem tr_stringB {v : Value} {y : DataW H × List MemPlace} (h : DataW.trod enc Tryd.prog W 0 (fun _ => true) true n 9 [v] = some y) : ∃ x : List UInt8, v = .string (tx x) ∧ x.length ≤ maxLen := by
  obtain ⟨s, h1, _, h2⟩ := DataW.trod_string Tryd.underlying9 h
  exact ⟨s.data.toList, by rw [tx_of]; simpa using h1, by simpa using h2⟩
theorem LsAt.both {α : Type} {R : RP} {e : TypeId} {size : Nat} {C : α → List Value → Prop} {P : α → Prop} {l : List α} {u : Value} (h : LsAt R e size (fun a cs => C a cs ∧ P a) l u) : LsAt R e size C l u ∧ ∀ a ∈ l, P a := by
  obtain ⟨xs, h1, h2⟩ := h
  refine ⟨⟨xs, h1, h2.imp fun a cs h => h.1⟩, ?_⟩
  clear h1
  induction l generalizing xs with
  | nil => intro a ha; cases ha
  | cons b l ih =>
    obtain ⟨cs, ys, _, hb, hr⟩ := h2
    intro a ha
    rcases List.mem_cons.1 ha with rfl | ha
    · exact hb.2
    · exact ih ys hr a ha
theorem open_ndS : ∀ (N : Nat) (n : Nat) (cs : List Value) (y : DataW H × List MemPlace), cs.length = 5 → DataW.trod enc Tryd.prog W 0 (fun _ => true) true n 24 cs = some y → SizeOf.sizeOf y.1 < N → Szd 24 y.1 → ∃ m, NAt (Rd W.heap.size W) N m cs ∧ Sm maxLen m
  | 0, _, _, _, _, _, h, _ => by omega
  | N + 1, n, cs, y, hl, h, hy, hz => by
    obtain ⟨xs, k, -, hx0, -, hxl, hg⟩ := DataW.trod_struct Tryd.underlying24 h
    obtain ⟨x0, x1, x2, x3, x4, rfl⟩ := tr_list5 (show xs.length = 5 from hxl)
    obtain ⟨v0, v1, v2, v3, v4, rfl⟩ := tr_list5 hl
    have g0 : DataW.trod enc Tryd.prog W 0 (fun _ => true) true k 3 (List.take (Tryd.prog.cellsOf 3) [v0, v1, v2, v3, v4]) = some x0 := hg 0 _ rfl
    have g1 : DataW.trod enc Tryd.prog W 0 (fun _ => true) true k 9 (List.take (Tryd.prog.cellsOf 9) [v1, v2, v3, v4]) = some x1 := hg 1 _ rfl
    have g2 : DataW.trod enc Tryd.prog W 0 (fun _ => true) true k 2 (List.take (Tryd.prog.cellsOf 2) [v2, v3, v4]) = some x2 := hg 2 _ rfl
    have g3 : DataW.trod enc Tryd.prog W 0 (fun _ => true) true k 3 (List.take (Tryd.prog.cellsOf 3) [v3, v4]) = some x3 := hg 3 _ rfl
    have g4 : DataW.trod enc Tryd.prog W 0 (fun _ => true) true k 22 (List.take (Tryd.prog.cellsOf 22) [v4]) = some x4 := hg 4 _ rfl
    rw [kt_int] at g0 g3
    rw [kt_string] at g1
    rw [kt_int64] at g2
    rw [kt_nodes] at g4
    obtain ⟨a0, rfl⟩ := tr_int g0
    obtain ⟨a1, rfl, hl1⟩ := tr_stringB g1
    obtain ⟨a2, rfl⟩ := tr_int64 g2
    obtain ⟨a3, rfl⟩ := tr_int g3
    subst hx0
    have hz4 : Szd 22 x4.1 := hz.struct Tryd.underlying24 4 rfl rfl
    have hlt : SizeOf.sizeOf x4.1 < _ := sz_part (parts := [x0.1, x1.1, x2.1, x3.1, x4.1]) (by simp : x4.1 ∈ _)
    obtain ⟨M, hM⟩ := open_lesser Tryd.underlying22 kt_node (by decide) kb_node (fun m cs => NAt (Rd W.heap.size W) N m cs ∧ Sm maxLen m) (fun n cs y hl h hy hz => open_ndS N n cs y hl h (by simp only [List.map_cons, List.map_nil] at *; omega) hz) (show DataW.trod enc Tryd.prog W 0 (fun _ => true) true k 22 [v4] = some x4 from g4) hz4
    obtain ⟨h1, h2⟩ := hM.both
    exact ⟨.mk a0 a1 a2 a3 M, ⟨v4, rfl, h1⟩, Sm.intro hl1 h2⟩
/-- A node that comes in. -/
theorem open_node {base : Nat} {v : Value} {d : DataW H} {ps : List MemPlace}
    (hval : Value.okWide Tryd.prog W .any base 24 v) (h : DataW.Trod enc Tryd.prog W 0 (fun _ => true) true 24 v d ps) (hz : Szd 24 d) :
    ∃ (m : Nd) (u : Value) (k : Nat), v = .agg #[.int .i64 m.kind, .string (tx m.text), .int .i64 m.num, .int .i64 m.at_, u] ∧ NAt (Rd W.heap.size W) k m [.int .i64 m.kind, .string (tx m.text), .int .i64 m.num, .int .i64 m.at_, u] ∧ Sm maxLen m := by
  obtain ⟨cs, rfl, hsz⟩ := okWide_struct Tryd.underlying24 hval
  obtain ⟨l⟩ := cs
  obtain ⟨fuel, hf⟩ := h
  obtain ⟨xs, k, -, -, hlen, hxl, hg⟩ := DataW.trod_struct Tryd.underlying24 hf
  have hl5 : l.length = 5 := by rw [kt_node] at hlen; simpa [Value.cells] using hlen
  obtain ⟨m, hm, hs⟩ := open_ndS (SizeOf.sizeOf d + 1) fuel l (d, ps) hl5 (by simpa [Value.cells] using hf) (Nat.lt_succ_self _) hz
  obtain ⟨u, rfl, hu⟩ := id hm
  exact ⟨m, u, _, rfl, hm, hs⟩
end

end Go.Proofs.YtceomdbahiimlaaDoor.T14
