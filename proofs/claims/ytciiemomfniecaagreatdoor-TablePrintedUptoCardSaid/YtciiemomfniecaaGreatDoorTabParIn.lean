/-
  Two files are held against each other, without the places where things begin, by the document's own function: the contracts.
-/
import Derived.Test.YtciiemomfniecaaGreatDoorTabOf
import Derived.Test.YtciiemomfniecaaGreatDoorProBare
import Derived.BigQuiet
import Derived.Deep.DeepCutAuto
import Derived.Test.YtciiemomfniecaaGreatDoorTabMath
import Derived.Test.YtciiemomfniecaaGreatDoorProParse
import Derived.Test.YtciiemomfniecaaGreatDoorTokRead
import Derived.Test.YtciiemomfniecaaGreatDoorVars
namespace Go.Proofs.YtciiemomfniecaaGreatDoor
set_option maxRecDepth 100000

open Go.RowKit

theorem takeMap {α β : Type} (b : α → β) {l m : List α} {k : Nat} {x y : α} (hx : l[k]? = some x) (hy : m[k]? = some y) (hb : b x = b y) (h : (l.take k).map b = (m.take k).map b) : (l.take (k + 1)).map b = (m.take (k + 1)).map b := by
  rw [List.take_add_one, List.take_add_one, hx, hy]
  simp [List.map_append, h, hb]
theorem lenQ {a b : Nat} (h : a = b) : ((a : Int) != (b : Int)) = false := by simp [h]
theorem lenR {a b : Nat} (h : a ≠ b) : ((a : Int) != (b : Int)) = true := by rw [bne_iff_ne]; omega
theorem takeMapE {α β : Type} {b : α → β} {l m : List α} (hl : l.length = m.length) (h : (l.take l.length).map b = (m.take l.length).map b) : l.map b = m.map b := by
  rw [List.take_length, hl, List.take_length] at h
  exact h
/-- Told to be the same, they are. -/
def OkPost (P : Prop) (w : World) (e : Ending) (w' : World) : Prop := ∃ b, e = .returned (.bool b) ∧ (b = true → P) ∧ Below w.heap.size w w'
theorem cell_lt7 {w : World} {p : Addr} {v : Value} (h : w.cell? p = some v) : p.block < w.heap.size := by
  unfold World.cell? at h
  by_cases hb : p.block < w.heap.size
  · exact hb
  · rw [Array.getElem?_eq_none (by omega)] at h
    cases h
def FldRel (l m : List Fd) (w : World) (n : Nat) (i : Value) (wr : World) : Prop := ∃ k : Nat, i = .int .i64 k ∧ k ≤ l.length ∧ n = l.length - k ∧ (l.take k).map bareFd = (m.take k).map bareFd ∧ Below w.heap.size w wr
set_option maxRecDepth 1000000 in
set_option maxHeartbeats 4000000 in
theorem rfields_any (A A' : Option Addr) (c c' : Nat) (l m : List Fd) (w : World) (h1 : Sl w A l.length c 7 (fdv l)) (h2 : Sl w A' m.length c' 7 (fdv m)) :
    Calls Tryz.prog 63 #[.slice A l.length c, .slice A' m.length c', .bool false] w (OkPost (l.map bareFd = m.map bareFd) w) := by
  have hsm : l.length ≤ 9223372036854775807 := by have h3 := h1.le; have h2 := h1.cap; unfold maxLen at h2; omega
  have H1 := Lib.hid h1
  have H2 := Lib.hid h2
  clear h1 h2
  by_cases hlen : l.length = m.length
  · have hb := lenQ hlen
    go_enter Tryz.func63, Tryz.ntmps63
    have HL := Lib.hid hlen
    clear hlen
    go_wp2
    clear hb
    go_loopg [7] (l.length) (fun n i wr => FldRel l m w n i wr)
    case atStart => exact ⟨0, rfl, by omega, by omega, rfl, Below.refl _ _⟩
    case round =>
      obtain ⟨k, rfl, hk, hn, ht, hb⟩ := hrel
      have HT := Lib.hid ht
      have HN := Lib.hid hn
      clear ht hn
      by_cases hlt : k < l.length
      · have hlm : k < m.length := by have := HL.out; omega
        obtain ⟨a, ha⟩ : ∃ a, l[k]? = some a := ⟨_, List.getElem?_eq_getElem hlt⟩
        obtain ⟨b, hbk⟩ : ∃ b, m[k]? = some b := ⟨_, List.getElem?_eq_getElem hlm⟩
        obtain ⟨ad, rfl, _, p0, p1, p2, p3, p4, p5, p6⟩ := fdr_at (H1.out.on hb) ha
        have hb8 := below_lit hb (.cells #[.string (txt a.type), .string (txt a.key), .bool a.rep, .int .i64 a.one, .string (txt a.name), .int .i64 a.no, .int .i64 a.at_] 53)
        have hx8 : (wr.alloc (.cells #[.string (txt a.type), .string (txt a.key), .bool a.rep, .int .i64 a.one, .string (txt a.name), .int .i64 a.no, .int .i64 a.at_] 53)).heap[wr.heap.size]? = some (.cells #[.string (txt a.type), .string (txt a.key), .bool a.rep, .int .i64 a.one, .string (txt a.name), .int .i64 a.no, .int .i64 a.at_] 53 (0, 0)) := heap_alloc_new wr _
        obtain ⟨ad2, rfl, _, r0, r1, r2, r3, r4, r5, r6⟩ := fdr_at (H2.out.on hb8) hbk
        have zf := heap_free hx8 6
        have HAK := Lib.hid ha
        have HBK := Lib.hid hbk
        clear ha hbk
        go_upto_region 9 with fail
        have hb9 := below_lit hb (.cells #[.string (txt a.type), .string (txt a.key), .bool a.rep, .int .i64 a.one, .string (txt a.name), .int .i64 a.no, .int .i64 b.at_] 53)
        have hx9 : (wr.alloc (.cells #[.string (txt a.type), .string (txt a.key), .bool a.rep, .int .i64 a.one, .string (txt a.name), .int .i64 a.no, .int .i64 b.at_] 53)).heap[wr.heap.size]? = some (.cells #[.string (txt a.type), .string (txt a.key), .bool a.rep, .int .i64 a.one, .string (txt a.name), .int .i64 a.no, .int .i64 b.at_] 53 (0, 0)) := heap_alloc_new wr _
        obtain ⟨W9, hW9⟩ : ∃ W, W = wr.alloc (.cells #[.string (txt a.type), .string (txt a.key), .bool a.rep, .int .i64 a.one, .string (txt a.name), .int .i64 a.no, .int .i64 b.at_] 53) := ⟨_, rfl⟩
        rw [← hW9] at hb9 hx9 ⊢
        clear hW9 p0 p1 p2 p3 p4 p5 p6 r0 r1 r2 r3 r4 r5 r6 zf hb8 hx8
        obtain ⟨ad3, had3, _, r0, r1, r2, r3, r4, r5, r6⟩ := fdr_at (H2.out.on hb9) HBK.out
        obtain rfl := Option.some.inj had3
        have p0 := heap_cell hx9 0
        have p1 := heap_cell hx9 1
        have p2 := heap_cell hx9 2
        have p3 := heap_cell hx9 3
        have p4 := heap_cell hx9 4
        have p5 := heap_cell hx9 5
        have p6 := heap_cell hx9 6
        simp at p0 p1 p2 p3 p4 p5 p6
        have HB9 := Lib.hid hb9
        clear hb9 hx9 hb had3
        by_cases hab : bareFd a = bareFd b
        · have HR := Lib.hid (takeMap bareFd HAK.out HBK.out hab HT.out)
          obtain ⟨a1, a2, a3, a4, a5, a6, a7⟩ := a
          obtain ⟨b1, b2, b3, b4, b5, b6, b7⟩ := b
          simp only [bareFd, Fd.mk.injEq, and_true] at hab
          obtain ⟨rfl, rfl, rfl, rfl, rfl, rfl⟩ := hab
          simp only at p0 p1 p2 p3 p4 p5 p6 r0 r1 r2 r3 r4 r5 r6
          go_quiet (fail)
          go_wp2
          go_roundg (l.length - (k + 1))
          case measure => have := HN.out; omega
          case rel => exact ⟨k + 1, by go_num, by omega, rfl, HR.out, below_draws HB9.out _⟩
        · obtain ⟨a1, a2, a3, a4, a5, a6, a7⟩ := a
          obtain ⟨b1, b2, b3, b4, b5, b6, b7⟩ := b
          simp only at p0 p1 p2 p3 p4 p5 p6 r0 r1 r2 r3 r4 r5 r6
          have hd : ((txt a1).toList == (txt b1).toList) = false ∨ (a1 = b1 ∧ ((txt a2).toList == (txt b2).toList) = false) ∨ (a1 = b1 ∧ a2 = b2 ∧ (a3 == b3) = false) ∨ (a1 = b1 ∧ a2 = b2 ∧ a3 = b3 ∧ (a4 == b4) = false) ∨
              (a1 = b1 ∧ a2 = b2 ∧ a3 = b3 ∧ a4 = b4 ∧ ((txt a5).toList == (txt b5).toList) = false) ∨ (a1 = b1 ∧ a2 = b2 ∧ a3 = b3 ∧ a4 = b4 ∧ a5 = b5 ∧ (a6 == b6) = false) := by
            simp only [bareFd, Fd.mk.injEq, and_true] at hab
            by_cases e1 : a1 = b1
            · right
              by_cases e2 : a2 = b2
              · right
                by_cases e3 : a3 = b3
                · right
                  by_cases e4 : a4 = b4
                  · right
                    by_cases e5 : a5 = b5
                    · right
                      exact ⟨e1, e2, e3, e4, e5, beq_eq_false_iff_ne.2 fun e6 => hab ⟨e1, e2, e3, e4, e5, e6⟩⟩
                    · left; exact ⟨e1, e2, e3, e4, txt_ne e5⟩
                  · left; exact ⟨e1, e2, e3, beq_eq_false_iff_ne.2 e4⟩
                · left; exact ⟨e1, e2, beq_eq_false_iff_ne.2 e3⟩
              · left; exact ⟨e1, txt_ne e2⟩
            · left; exact txt_ne e1
          clear hab
          rcases hd with d1 | ⟨rfl, d1⟩ | ⟨rfl, rfl, d1⟩ | ⟨rfl, rfl, rfl, d1⟩ | ⟨rfl, rfl, rfl, rfl, d1⟩ | ⟨rfl, rfl, rfl, rfl, rfl, d1⟩
          all_goals
            go_quiet (fail)
            go_wp2
            go_ret
            exact ⟨false, rfl, (fun h => by cases h), below_draws HB9.out _⟩
      · obtain rfl : k = l.length := by omega
        have HF := Lib.hid (takeMapE HL.out HT.out)
        go_wp2
        go_ret
        exact ⟨true, rfl, fun _ => HF.out, hb⟩
  · have hb := lenR hlen
    clear hlen
    go_enter Tryz.func63, Tryz.ntmps63
    go_wp2
    go_ret
    exact ⟨false, rfl, (fun h => by cases h), Below.refl _ _⟩

/-! ### Whole files -/

theorem takeP {α : Type} {l m : List α} {k : Nat} {x : α} (hx : l[k]? = some x) (hy : m[k]? = some x) (h : l.take k = m.take k) : l.take (k + 1) = m.take (k + 1) := by
  rw [List.take_add_one, List.take_add_one, h, hx, hy]
theorem takePE {α : Type} {l m : List α} (hl : l.length = m.length) (h : l.take l.length = m.take l.length) : l = m := by
  rw [List.take_length, hl, List.take_length] at h
  exact h
theorem bare_ms_eq {x y : Ms} (h1 : x.name = y.name) (h2 : x.F.map bareFd = y.F.map bareFd) (h3 : x.ones = y.ones) (h4 : x.res = y.res) : bareMs x = bareMs y := by
  unfold bareMs
  rw [h1, h2, h3, h4]
theorem bare_en_eq {x y : En} (h1 : x.name = y.name) (h2 : x.V.map bareVl = y.V.map bareVl) : bareEn x = bareEn y := by
  unfold bareEn
  rw [h1, h2]
def MsRel (l m : List Ms) (w : World) (n : Nat) (i : Value) (wr : World) : Prop := ∃ k : Nat, i = .int .i64 k ∧ k ≤ l.length ∧ n = l.length - k ∧ (l.take k).map bareMs = (m.take k).map bareMs ∧ Below w.heap.size w wr
def EnRel (l m : List En) (w : World) (n : Nat) (i : Value) (wr : World) : Prop := ∃ k : Nat, i = .int .i64 k ∧ k ≤ l.length ∧ n = l.length - k ∧ (l.take k).map bareEn = (m.take k).map bareEn ∧ Below w.heap.size w wr
def VlsRel (l m : List Vl) (w : World) (n : Nat) (i : Value) (wr : World) : Prop := ∃ k : Nat, i = .int .i64 k ∧ k ≤ l.length ∧ n = l.length - k ∧ (l.take k).map bareVl = (m.take k).map bareVl ∧ Below w.heap.size w wr
def StRel {α : Type} (l m : List α) (w : World) (n : Nat) (i : Value) (wr : World) : Prop := ∃ k : Nat, i = .int .i64 k ∧ k ≤ l.length ∧ n = l.length - k ∧ l.take k = m.take k ∧ Below w.heap.size w wr
theorem lt_of_heap {w : World} {g : Nat} {o : Obj} (h : w.heap[g]? = some o) : g < w.heap.size := (Array.getElem?_eq_some_iff.1 h).1
set_option maxRecDepth 1000000 in
set_option maxHeartbeats 8000000 in
theorem rsame_any (B : Nat) (f g : Fl) (vM vE vM' vE' : Value) (w : World) (hB : B ≤ w.heap.size) (hf : FAt B w f vM vE) (hg : FAt B w g vM' vE') :
    Calls Tryz.prog 30 #[.agg #[vM, vE], .agg #[vM', vE'], .bool false] w (OkPost (bareFl f = bareFl g) w) := by
  obtain ⟨M, E⟩ := f
  obtain ⟨M', E'⟩ := g
  obtain ⟨xs, ys, ⟨A1, q1, rfl, s1, b1⟩, h2, ⟨A2, q2, rfl, s2, b2⟩, h4⟩ := hf
  obtain ⟨xs', ys', ⟨A1', q1', rfl, s1', b1'⟩, h2', ⟨A2', q2', rfl, s2', b2'⟩, h4'⟩ := hg
  simp only at s1 s2 h2 h4 b1 b2 s1' s2' h2' h4' b1' b2'
  have hlM : M.length ≤ 9223372036854775807 := by have h1 := s1.le; have h2 := s1.cap; unfold maxLen at h2; omega
  have hlE : E.length ≤ 9223372036854775807 := by have h1 := s2.le; have h2 := s2.cap; unfold maxLen at h2; omega
  have HM := Lib.hid (fun (wx : World) (hb : Below w.heap.size w wx) => s1.low b1 (Low.below hb hB))
  have HMA := Lib.hid (fun (wx : World) (hb : Below w.heap.size w wx) => h2.low (Low.below hb hB))
  have HE := Lib.hid (fun (wx : World) (hb : Below w.heap.size w wx) => s2.low b2 (Low.below hb hB))
  have HEA := Lib.hid (fun (wx : World) (hb : Below w.heap.size w wx) => h4.low (Low.below hb hB))
  have HM' := Lib.hid (fun (wx : World) (hb : Below w.heap.size w wx) => s1'.low b1' (Low.below hb hB))
  have HMA' := Lib.hid (fun (wx : World) (hb : Below w.heap.size w wx) => h2'.low (Low.below hb hB))
  have HE' := Lib.hid (fun (wx : World) (hb : Below w.heap.size w wx) => s2'.low b2' (Low.below hb hB))
  have HEA' := Lib.hid (fun (wx : World) (hb : Below w.heap.size w wx) => h4'.low (Low.below hb hB))
  clear s1 s2 h2 h4 s1' s2' h2' h4'
  have HB0 := Lib.hid (below_lit (below_new w (.cells #[.slice A1 M.length q1, .slice A2 E.length q2] 25)) (.cells #[.slice A1' M'.length q1', .slice A2' E'.length q2'] 25))
  have hba := heap_first w (.cells #[.slice A1 M.length q1, .slice A2 E.length q2] 25) (.cells #[.slice A1' M'.length q1', .slice A2' E'.length q2'] 25) rfl
  have hbb := heap_second w (.cells #[.slice A1 M.length q1, .slice A2 E.length q2] 25) (.cells #[.slice A1' M'.length q1', .slice A2' E'.length q2'] 25)
  go_enter Tryz.func30, Tryz.ntmps30
  go_upto_region 1 with fail
  obtain ⟨W0, hW0⟩ : ∃ W, W = (w.alloc (.cells #[.slice A1 M.length q1, .slice A2 E.length q2] 25)).alloc (.cells #[.slice A1' M'.length q1', .slice A2' E'.length q2'] 25) := ⟨_, rfl⟩
  rw [← hW0] at HB0 hba hbb ⊢
  clear hW0
  have fa0 := heap_cell hba 0
  have fa1 := heap_cell hba 1
  have fb0 := heap_cell hbb 0
  have fb1 := heap_cell hbb 1
  simp at fa0 fa1 fb0 fb1
  have HF := Lib.hid (And.intro fa0 (And.intro fa1 (And.intro fb0 fb1)))
  clear hba hbb
  by_cases hlen : M.length = M'.length
  · have hb := lenQ hlen
    by_cases hlen2 : E.length = E'.length
    · have hb2 := lenQ hlen2
      have HLM := Lib.hid hlen
      have HLE := Lib.hid hlen2
      clear hlen hlen2
      go_wp2
      clear hb hb2 fa0 fa1 fb0 fb1
      go_loopg [7] (M.length) (fun n i wr => MsRel M M' W0 n i wr)
      case atStart => exact ⟨0, rfl, by omega, by omega, rfl, Below.refl _ _⟩
      case round =>
        obtain ⟨k, rfl, hk, hn, ht, hb⟩ := hrel
        have HT := Lib.hid ht
        have HN := Lib.hid hn
        clear ht hn
        have fa0 := (hb.cell (cell_lt7 HF.out.1)).trans HF.out.1
        have fb0 := (hb.cell (cell_lt7 HF.out.2.2.1)).trans HF.out.2.2.1
        by_cases hlt : k < M.length
        · have hlm : k < M'.length := by have := HLM.out; omega
          obtain ⟨x, hx⟩ : ∃ a, M[k]? = some a := ⟨_, List.getElem?_eq_getElem hlt⟩
          obtain ⟨y, hy⟩ : ∃ a, M'[k]? = some a := ⟨_, List.getElem?_eq_getElem hlm⟩
          have hbw := below_then HB0.out hb
          obtain ⟨ad, vF, vO, vR, rfl, _, hmr, p0, p1, p2, p3, p4⟩ := msr_at (HM.out _ hbw) (HMA.out _ hbw) hx
          obtain ⟨AF, cF, rfl, sF, oF⟩ := hmr.f
          obtain ⟨AO, cO, rfl, sO, oO⟩ := hmr.o
          obtain ⟨AR, cR, rfl, sR, oR⟩ := hmr.r
          have hbw1 := below_lit hbw (.cells #[.string (txt x.name), .slice AF x.F.length cF, .slice AO x.ones.length cO, .slice AR x.res.length cR, .int .i64 x.at_] 51)
          have hb1 := below_lit hb (.cells #[.string (txt x.name), .slice AF x.F.length cF, .slice AO x.ones.length cO, .slice AR x.res.length cR, .int .i64 x.at_] 51)
          obtain ⟨ad', vF', vO', vR', rfl, _, hmr', p0', p1', p2', p3', p4'⟩ := msr_at (HM'.out _ hbw1) (HMA'.out _ hbw1) hy
          obtain ⟨AF', cF', rfl, sF', oF'⟩ := hmr'.f
          obtain ⟨AO', cO', rfl, sO', oO'⟩ := hmr'.o
          obtain ⟨AR', cR', rfl, sR', oR'⟩ := hmr'.r
          --GEN
          have HFLD := Lib.hid (fun (wx : World) (h : Below (wr.alloc (.cells #[.string (txt x.name), .slice AF x.F.length cF, .slice AO x.ones.length cO, .slice AR x.res.length cR, .int .i64 x.at_] 51)).heap.size (wr.alloc (.cells #[.string (txt x.name), .slice AF x.F.length cF, .slice AO x.ones.length cO, .slice AR x.res.length cR, .int .i64 x.at_] 51)) wx) => rfields_any AF AF' cF cF' x.F y.F wx (sF.on (below_then (below_new _ _) h)) (sF'.on h))
          have SO := Lib.hid (fun (wx : World) (h : Below (wr.alloc (.cells #[.string (txt x.name), .slice AF x.F.length cF, .slice AO x.ones.length cO, .slice AR x.res.length cR, .int .i64 x.at_] 51)).heap.size (wr.alloc (.cells #[.string (txt x.name), .slice AF x.F.length cF, .slice AO x.ones.length cO, .slice AR x.res.length cR, .int .i64 x.at_] 51)) wx) => And.intro (sO.on (below_then (below_new _ _) h)) (sO'.on h))
          have SR := Lib.hid (fun (wx : World) (h : Below (wr.alloc (.cells #[.string (txt x.name), .slice AF x.F.length cF, .slice AO x.ones.length cO, .slice AR x.res.length cR, .int .i64 x.at_] 51)).heap.size (wr.alloc (.cells #[.string (txt x.name), .slice AF x.F.length cF, .slice AO x.ones.length cO, .slice AR x.res.length cR, .int .i64 x.at_] 51)) wx) => And.intro (sR.on (below_then (below_new _ _) h)) (sR'.on h))
          have HX := Lib.hid hx
          have HY := Lib.hid hy
          have hfb := ((below_new wr (.cells #[.string (txt x.name), .slice AF x.F.length cF, .slice AO x.ones.length cO, .slice AR x.res.length cR, .int .i64 x.at_] 51)).cell (cell_lt7 fb0)).trans fb0
          have hb2 := below_lit hb1 (.cells #[.string (txt y.name), .slice AF' y.F.length cF', .slice AO' y.ones.length cO', .slice AR' y.res.length cR', .int .i64 y.at_] 51)
          have hbw2 := below_lit hbw1 (.cells #[.string (txt y.name), .slice AF' y.F.length cF', .slice AO' y.ones.length cO', .slice AR' y.res.length cR', .int .i64 y.at_] 51)
          have hb12 := below_new (wr.alloc (.cells #[.string (txt x.name), .slice AF x.F.length cF, .slice AO x.ones.length cO, .slice AR x.res.length cR, .int .i64 x.at_] 51)) (.cells #[.string (txt y.name), .slice AF' y.F.length cF', .slice AO' y.ones.length cO', .slice AR' y.res.length cR', .int .i64 y.at_] 51)
          have hxa := heap_first wr (.cells #[.string (txt x.name), .slice AF x.F.length cF, .slice AO x.ones.length cO, .slice AR x.res.length cR, .int .i64 x.at_] 51) (.cells #[.string (txt y.name), .slice AF' y.F.length cF', .slice AO' y.ones.length cO', .slice AR' y.res.length cR', .int .i64 y.at_] 51) rfl
          have hxb := heap_second wr (.cells #[.string (txt x.name), .slice AF x.F.length cF, .slice AO x.ones.length cO, .slice AR x.res.length cR, .int .i64 x.at_] 51) (.cells #[.string (txt y.name), .slice AF' y.F.length cF', .slice AO' y.ones.length cO', .slice AR' y.res.length cR', .int .i64 y.at_] 51)
          have hlF : x.F.length ≤ 9223372036854775807 := by have h1 := sF.le; have h2 := sF.cap; unfold maxLen at h2; omega
          have hlO : x.ones.length ≤ 9223372036854775807 := by have h1 := sO.le; have h2 := sO.cap; unfold maxLen at h2; omega
          have hlR : x.res.length ≤ 9223372036854775807 := by have h1 := sR.le; have h2 := sR.cap; unfold maxLen at h2; omega
          clear sF sF' sO sO' sR sR' hmr hmr' hx hy oF oF' oO oO' oR oR'
          go_upto_region 8 with fail
          obtain ⟨W2, hW2⟩ : ∃ W, W = (wr.alloc (.cells #[.string (txt x.name), .slice AF x.F.length cF, .slice AO x.ones.length cO, .slice AR x.res.length cR, .int .i64 x.at_] 51)).alloc (.cells #[.string (txt y.name), .slice AF' y.F.length cF', .slice AO' y.ones.length cO', .slice AR' y.res.length cR', .int .i64 y.at_] 51) := ⟨_, rfl⟩
          rw [← hW2] at hb2 hbw2 hb12 hxa hxb ⊢
          clear hW2 p0 p1 p2 p3 p4 p0' p1' p2' p3' p4' hfb
          have ca1 := heap_cell hxa 1
          have cb1 := heap_cell hxb 1
          simp at ca1 cb1
          go_wp2_with fail
          refine (HFLD.out _ hb12).mono ?_
          rintro e W3 ⟨r, rfl, hre, hb3⟩
          have hxa3 := (hb3.block _ (lt_of_heap hxa)).trans hxa
          have hxb3 := (hb3.block _ (lt_of_heap hxb)).trans hxb
          have HB3 := Lib.hid (below_then hb2 hb3)
          have HBW3 := Lib.hid (below_then hbw2 hb3)
          have hb13 := below_then hb12 hb3
          have SO' := Lib.hid (SO.out _ hb13).2
          have SO := Lib.hid (SO.out _ hb13).1
          have SR' := Lib.hid (SR.out _ hb13).2
          have SR := Lib.hid (SR.out _ hb13).1
          clear ca1 cb1 hxa hxb hb3 hb2 hbw2 hb12 hb1 hbw1 hb hbw hb13 fa0 fb0
          have ca0 := heap_cell hxa3 0
          have ca2 := heap_cell hxa3 2
          have ca3 := heap_cell hxa3 3
          have ca4 := heap_cell hxa3 4
          have cb0 := heap_cell hxb3 0
          have cb2 := heap_cell hxb3 2
          have cb3 := heap_cell hxb3 3
          have cb4 := heap_cell hxb3 4
          simp at ca0 ca2 ca3 ca4 cb0 cb2 cb3 cb4
          clear hxa3 hxb3 HFLD
          cases r with
          | false =>
            go_wp2
            go_ret
            exact ⟨false, rfl, (fun h => by cases h), HBW3.out⟩
          | true =>
            have HFE := Lib.hid (hre rfl)
            clear hre
            by_cases hnm : x.name = y.name
            · by_cases hlo : x.ones.length = y.ones.length
              · by_cases hlr : x.res.length = y.res.length
                · have hq1 := lenQ hlo
                  have hq2 := lenQ hlr
                  have HNM := Lib.hid hnm
                  have HLO := Lib.hid hlo
                  have HLR := Lib.hid hlr
                  rw [← hnm] at cb0
                  clear hlo hlr hnm
                  go_wp2
                  clear hq1 hq2 ca0 cb0 ca4 cb4
                  go_loopg [11] (x.ones.length) (fun n i wr => StRel x.ones y.ones W3 n i wr)
                  case atStart => exact ⟨0, rfl, by omega, by omega, rfl, Below.refl _ _⟩
                  case round =>
                    obtain ⟨j, rfl, hj, hjn, hjt, hjb⟩ := hrel
                    have HJT := Lib.hid hjt
                    have HJN := Lib.hid hjn
                    clear hjt hjn
                    have ka := (hjb.cell (cell_lt7 ca2)).trans ca2
                    have kb := (hjb.cell (cell_lt7 cb2)).trans cb2
                    by_cases hlj : j < x.ones.length
                    · have hlj' : j < y.ones.length := by have := HLO.out; omega
                      obtain ⟨a, ha⟩ : ∃ a, x.ones[j]? = some a := ⟨_, List.getElem?_eq_getElem hlj⟩
                      obtain ⟨b, hbk⟩ : ∃ a, y.ones[j]? = some a := ⟨_, List.getElem?_eq_getElem hlj'⟩
                      obtain ⟨da, rfl, _, r0⟩ := strr_at (SO.out.on hjb) ha
                      obtain ⟨db, rfl, _, r1⟩ := strr_at (SO'.out.on hjb) hbk
                      have HAK := Lib.hid ha
                      have HBK := Lib.hid hbk
                      have HJB := Lib.hid hjb
                      clear ha hbk hjb
                      by_cases hab : a = b
                      · subst hab
                        go_wp2
                        go_quiet (fail)
                        go_wp2
                        go_roundg (x.ones.length - (j + 1))
                        case measure => have := HJN.out; omega
                        case rel => exact ⟨j + 1, by go_num, by omega, rfl, takeP HAK.out HBK.out HJT.out, below_draws HJB.out _⟩
                      · have hne := txt_ne hab
                        clear hab
                        go_wp2
                        go_quiet (fail)
                        go_wp2
                        go_ret
                        exact ⟨false, rfl, (fun h => by cases h), below_draws (below_then HBW3.out HJB.out) _⟩
                    · obtain rfl : j = x.ones.length := by omega
                      have HOE := Lib.hid (takePE HLO.out HJT.out)
                      clear HJT HJN hj hlj
                      go_wp2
                      go_loopg [12] (x.res.length) (fun n i wr => StRel x.res y.res W3 n i wr)
                      case atStart => exact ⟨0, rfl, by omega, by omega, rfl, hjb⟩
                      case round =>
                        obtain ⟨j, rfl, hj, hjn, hjt, hjb⟩ := hrel
                        have HJT := Lib.hid hjt
                        have HJN := Lib.hid hjn
                        clear hjt hjn
                        have ka := (hjb.cell (cell_lt7 ca3)).trans ca3
                        have kb := (hjb.cell (cell_lt7 cb3)).trans cb3
                        by_cases hlj : j < x.res.length
                        · have hlj' : j < y.res.length := by have := HLR.out; omega
                          obtain ⟨a, ha⟩ : ∃ a, x.res[j]? = some a := ⟨_, List.getElem?_eq_getElem hlj⟩
                          obtain ⟨b, hbk⟩ : ∃ a, y.res[j]? = some a := ⟨_, List.getElem?_eq_getElem hlj'⟩
                          obtain ⟨da, rfl, _, r0⟩ := intr_at (SR.out.on hjb) ha
                          obtain ⟨db, rfl, _, r1⟩ := intr_at (SR'.out.on hjb) hbk
                          have HAK := Lib.hid ha
                          have HBK := Lib.hid hbk
                          have HJB := Lib.hid hjb
                          clear ha hbk hjb
                          by_cases hab : a = b
                          · subst hab
                            go_wp2
                            go_quiet (fail)
                            go_wp2
                            go_roundg (x.res.length - (j + 1))
                            case measure => have := HJN.out; omega
                            case rel => exact ⟨j + 1, by go_num, by omega, rfl, takeP HAK.out HBK.out HJT.out, below_draws HJB.out _⟩
                          · have hne := beq_eq_false_iff_ne.2 hab
                            clear hab
                            go_wp2
                            go_quiet (fail)
                            go_wp2
                            go_ret
                            exact ⟨false, rfl, (fun h => by cases h), below_draws (below_then HBW3.out HJB.out) _⟩
                        · obtain rfl : j = x.res.length := by omega
                          have HRE := Lib.hid (takePE HLR.out HJT.out)
                          clear HJT HJN hj hlj
                          go_wp2
                          go_roundg (M.length - (k + 1))
                          case measure => have := HN.out; omega
                          case rel => exact ⟨k + 1, by go_num, by omega, rfl, takeMap bareMs HX.out HY.out (bare_ms_eq HNM.out HFE.out HOE.out HRE.out) HT.out, below_then HB3.out hjb⟩
                · have hq1 := lenQ hlo
                  have hq2 := lenR hlr
                  rw [← hnm] at cb0
                  clear hnm hlo hlr
                  go_wp2
                  go_ret
                  exact ⟨false, rfl, (fun h => by cases h), HBW3.out⟩
              · have hq1 := lenR hlo
                rw [← hnm] at cb0
                clear hnm hlo
                go_wp2
                go_ret
                exact ⟨false, rfl, (fun h => by cases h), HBW3.out⟩
            · have hq0 := txt_ne hnm
              clear hnm
              go_wp2
              go_ret
              exact ⟨false, rfl, (fun h => by cases h), HBW3.out⟩
        · obtain rfl : k = M.length := by omega
          have HME := Lib.hid (takeMapE (b := bareMs) HLM.out HT.out)
          have fa1 := (hb.cell (cell_lt7 HF.out.2.1)).trans HF.out.2.1
          have fb1 := (hb.cell (cell_lt7 HF.out.2.2.2)).trans HF.out.2.2.2
          clear HT HN
          go_wp2
          clear fa0 fb0 fa1 fb1
          go_loopg [13] (E.length) (fun n i wr => EnRel E E' W0 n i wr)
          case atStart => exact ⟨0, rfl, by omega, by omega, rfl, hb⟩
          case round =>
            clear hb
            obtain ⟨k, rfl, hk, hn, ht, hb⟩ := hrel
            have HT := Lib.hid ht
            have HN := Lib.hid hn
            clear ht hn
            have fa0 := (hb.cell (cell_lt7 HF.out.2.1)).trans HF.out.2.1
            have fb0 := (hb.cell (cell_lt7 HF.out.2.2.2)).trans HF.out.2.2.2
            by_cases hlt : k < E.length
            · have hlm : k < E'.length := by have := HLE.out; omega
              obtain ⟨x, hx⟩ : ∃ a, E[k]? = some a := ⟨_, List.getElem?_eq_getElem hlt⟩
              obtain ⟨y, hy⟩ : ∃ a, E'[k]? = some a := ⟨_, List.getElem?_eq_getElem hlm⟩
              have hbw := below_then HB0.out hb
              obtain ⟨ad, vF, rfl, _, hmr, p0, p1, p2⟩ := enr_at (HE.out _ hbw) (HEA.out _ hbw) hx
              obtain ⟨AF, cF, rfl, sF, oF⟩ := id hmr
              have hbw1 := below_lit hbw (.cells #[.string (txt x.name), .slice AF x.V.length cF, .int .i64 x.at_] 65)
              have hb1 := below_lit hb (.cells #[.string (txt x.name), .slice AF x.V.length cF, .int .i64 x.at_] 65)
              obtain ⟨ad', vF', rfl, _, hmr', p0', p1', p2'⟩ := enr_at (HE'.out _ hbw1) (HEA'.out _ hbw1) hy
              obtain ⟨AF', cF', rfl, sF', oF'⟩ := id hmr'
              have HX := Lib.hid hx
              have HY := Lib.hid hy
              have hfb := ((below_new wr (.cells #[.string (txt x.name), .slice AF x.V.length cF, .int .i64 x.at_] 65)).cell (cell_lt7 fb0)).trans fb0
              have hb2 := below_lit hb1 (.cells #[.string (txt y.name), .slice AF' y.V.length cF', .int .i64 y.at_] 65)
              have hbw2 := below_lit hbw1 (.cells #[.string (txt y.name), .slice AF' y.V.length cF', .int .i64 y.at_] 65)
              have hb12 := below_new (wr.alloc (.cells #[.string (txt x.name), .slice AF x.V.length cF, .int .i64 x.at_] 65)) (.cells #[.string (txt y.name), .slice AF' y.V.length cF', .int .i64 y.at_] 65)
              have hxa := heap_first wr (.cells #[.string (txt x.name), .slice AF x.V.length cF, .int .i64 x.at_] 65) (.cells #[.string (txt y.name), .slice AF' y.V.length cF', .int .i64 y.at_] 65) rfl
              have hxb := heap_second wr (.cells #[.string (txt x.name), .slice AF x.V.length cF, .int .i64 x.at_] 65) (.cells #[.string (txt y.name), .slice AF' y.V.length cF', .int .i64 y.at_] 65)
              have hlV : x.V.length ≤ 9223372036854775807 := by have h1 := sF.le; have h2 := sF.cap; unfold maxLen at h2; omega
              have SO := Lib.hid (sF.on (below_then (below_new _ _) hb12))
              have SO' := Lib.hid (sF'.on hb12)
              clear sF sF' hmr hmr' hx hy oF oF'
              go_upto_region 26 with fail
              obtain ⟨W3, hW2⟩ : ∃ W, W = (wr.alloc (.cells #[.string (txt x.name), .slice AF x.V.length cF, .int .i64 x.at_] 65)).alloc (.cells #[.string (txt y.name), .slice AF' y.V.length cF', .int .i64 y.at_] 65) := ⟨_, rfl⟩
              rw [← hW2] at hb2 hbw2 hxa hxb SO SO' ⊢
              clear hW2 p0 p1 p2 p0' p1' p2' hfb hb12
              have ca0 := heap_cell hxa 0
              have ca1 := heap_cell hxa 1
              have ca2 := heap_cell hxa 2
              have cb0 := heap_cell hxb 0
              have cb1 := heap_cell hxb 1
              have cb2 := heap_cell hxb 2
              simp at ca0 ca1 ca2 cb0 cb1 cb2
              have HB3 := Lib.hid hb2
              have HBW3 := Lib.hid hbw2
              clear hxa hxb hb2 hbw2 hb1 hbw1 hb hbw fa0 fb0
              by_cases hnm : x.name = y.name
              · by_cases hlo : x.V.length = y.V.length
                · have hq1 := lenQ hlo
                  have HNM := Lib.hid hnm
                  have HLO := Lib.hid hlo
                  rw [← hnm] at cb0
                  clear hlo hnm
                  go_wp2
                  clear hq1 ca0 cb0 ca2 cb2
                  go_loopg [16] (x.V.length) (fun n i wr => VlsRel x.V y.V W3 n i wr)
                  case atStart => exact ⟨0, rfl, by omega, by omega, rfl, Below.refl _ _⟩
                  case round =>
                    obtain ⟨j, rfl, hj, hjn, hjt, hjb⟩ := hrel
                    have HJT := Lib.hid hjt
                    have HJN := Lib.hid hjn
                    clear hjt hjn
                    have ka := (hjb.cell (cell_lt7 ca1)).trans ca1
                    have kb := (hjb.cell (cell_lt7 cb1)).trans cb1
                    by_cases hlj : j < x.V.length
                    · have hlj' : j < y.V.length := by have := HLO.out; omega
                      obtain ⟨a, ha⟩ : ∃ a, x.V[j]? = some a := ⟨_, List.getElem?_eq_getElem hlj⟩
                      obtain ⟨b, hbk⟩ : ∃ a, y.V[j]? = some a := ⟨_, List.getElem?_eq_getElem hlj'⟩
                      obtain ⟨da, rfl, _, r0, r1, r2⟩ := vlr_at (SO.out.on hjb) ha
                      have hj8 := below_lit hjb (.cells #[.string (txt a.name), .int .i64 a.n, .int .i64 a.at_] 83)
                      have kb8 := (hj8.cell (cell_lt7 cb1)).trans cb1
                      obtain ⟨db, rfl, _, t0, t1, t2⟩ := vlr_at (SO'.out.on hj8) hbk
                      have zf := heap_free (heap_alloc_new wr (.cells #[.string (txt a.name), .int .i64 a.n, .int .i64 a.at_] 83)) 2
                      have HAK := Lib.hid ha
                      have HBK := Lib.hid hbk
                      clear ha hbk
                      go_upto_region 34 with fail
                      have hj9 := below_lit hjb (.cells #[.string (txt a.name), .int .i64 a.n, .int .i64 b.at_] 83)
                      have hx9 : (wr.alloc (.cells #[.string (txt a.name), .int .i64 a.n, .int .i64 b.at_] 83)).heap[wr.heap.size]? = some (.cells #[.string (txt a.name), .int .i64 a.n, .int .i64 b.at_] 83 (0, 0)) := heap_alloc_new wr _
                      obtain ⟨W9, hW9⟩ : ∃ W, W = wr.alloc (.cells #[.string (txt a.name), .int .i64 a.n, .int .i64 b.at_] 83) := ⟨_, rfl⟩
                      rw [← hW9] at hj9 hx9 ⊢
                      clear hW9 r0 r1 r2 t0 t1 t2 zf hj8 kb8
                      obtain ⟨ad3, had3, _, r0, r1, r2⟩ := vlr_at (SO'.out.on hj9) HBK.out
                      obtain rfl := Option.some.inj had3
                      have kb9 := (hj9.cell (cell_lt7 cb1)).trans cb1
                      have q0 := heap_cell hx9 0
                      have q1 := heap_cell hx9 1
                      have q2 := heap_cell hx9 2
                      simp at q0 q1 q2
                      have HJ9 := Lib.hid hj9
                      clear hj9 hx9 hjb had3
                      by_cases hab : bareVl a = bareVl b
                      · have HR := Lib.hid (takeMap bareVl HAK.out HBK.out hab HJT.out)
                        obtain ⟨a1, a2, a3⟩ := a
                        obtain ⟨b1, b2, b3⟩ := b
                        simp only [bareVl, Vl.mk.injEq, and_true] at hab
                        obtain ⟨rfl, rfl⟩ := hab
                        simp only at q0 q1 q2 r0 r1 r2
                        go_quiet (fail)
                        go_wp2
                        go_roundg (x.V.length - (j + 1))
                        case measure => have := HJN.out; omega
                        case rel => exact ⟨j + 1, by go_num, by omega, rfl, HR.out, below_draws HJ9.out _⟩
                      · obtain ⟨a1, a2, a3⟩ := a
                        obtain ⟨b1, b2, b3⟩ := b
                        simp only at q0 q1 q2 r0 r1 r2
                        have hd : ((txt a1).toList == (txt b1).toList) = false ∨ (a1 = b1 ∧ (a2 == b2) = false) := by
                          simp only [bareVl, Vl.mk.injEq, and_true] at hab
                          by_cases e1 : a1 = b1
                          · right
                            exact ⟨e1, beq_eq_false_iff_ne.2 fun e2 => hab ⟨e1, e2⟩⟩
                          · left; exact txt_ne e1
                        clear hab
                        rcases hd with d1 | ⟨rfl, d1⟩
                        all_goals
                          go_quiet (fail)
                          go_wp2
                          go_ret
                          exact ⟨false, rfl, (fun h => by cases h), below_draws (below_then HBW3.out HJ9.out) _⟩
                    · obtain rfl : j = x.V.length := by omega
                      have HVE := Lib.hid (takeMapE (b := bareVl) HLO.out HJT.out)
                      clear HJT HJN hj hlj
                      go_wp2
                      go_roundg (E.length - (k + 1))
                      case measure => have := HN.out; omega
                      case rel => exact ⟨k + 1, by go_num, by omega, rfl, takeMap bareEn HX.out HY.out (bare_en_eq HNM.out HVE.out) HT.out, below_then HB3.out hjb⟩
                · have hq1 := lenR hlo
                  rw [← hnm] at cb0
                  clear hnm hlo
                  go_wp2
                  go_ret
                  exact ⟨false, rfl, (fun h => by cases h), HBW3.out⟩
              · have hq0 := txt_ne hnm
                clear hnm
                go_wp2
                go_ret
                exact ⟨false, rfl, (fun h => by cases h), HBW3.out⟩
            · obtain rfl : k = E.length := by omega
              have HEE := Lib.hid (takeMapE (b := bareEn) HLE.out HT.out)
              go_wp2
              go_ret
              exact ⟨true, rfl, fun _ => by unfold bareFl; rw [HME.out, HEE.out], below_then HB0.out hb⟩
    · have hb2 := lenR hlen2
      clear hlen hlen2
      go_wp2
      go_ret
      exact ⟨false, rfl, (fun h => by cases h), HB0.out⟩
  · have hb := lenR hlen
    clear hlen
    go_wp2
    go_ret
    exact ⟨false, rfl, (fun h => by cases h), HB0.out⟩
end Go.Proofs.YtciiemomfniecaaGreatDoor
/-
  What is resolved of a file does not hang on the places where things begin.
-/
namespace Go.Proofs.YtciiemomfniecaaGreatDoor
set_option maxRecDepth 100000

theorem bare_names (f : Fl) : namesF (bareFl f) = namesF f := by
  simp [namesF, bareFl, Function.comp_def, bareMs, bareEn]
theorem bare_lenM (f : Fl) : (bareFl f).M.length = f.M.length := by simp [bareFl]
theorem bare_lenE (f : Fl) : (bareFl f).E.length = f.E.length := by simp [bareFl]
theorem bare_kind (f : Fl) (x : List UInt8) : kindF (bareFl f) x = kindF f x := by
  unfold kindF
  rw [bare_names, bare_lenM]
theorem bare_long (f : Fl) (i : Nat) : hdLong (bareFl f) i = hdLong f i := by
  unfold hdLong
  rw [bare_lenM]
  simp only [bareFl, List.getElem?_map, Option.map_map]
  split
  · congr 1
    congr 1
    funext m
    simp only [Function.comp_def, bareMs, List.length_map]
    rfl
  · congr 1
    congr 1
    funext m
    simp only [Function.comp_def, bareEn, List.length_map]
theorem bare_hd (f : Fl) (i : Nat) : (hdErr (bareFl f) i).map (·.2) = (hdErr f i).map (·.2) := by
  unfold hdErr
  rw [bare_names, bare_long]
  split
  · rfl
  · split <;> rfl
theorem bare_form (m : Ms) (k : Nat) (x : Fd) : fdForm (bareMs m) k (bareFd x) = fdForm m k x := by
  unfold fdForm
  have h : (((bareMs m).F.take k).any fun y => y.name == (bareFd x).name || y.no == (bareFd x).no) = ((m.F.take k).any fun y => y.name == x.name || y.no == x.no) := by
    simp [bareMs, bareFd, ← List.map_take, List.any_map, Function.comp_def]
  rw [h]
  rfl
theorem bare_fd (f : Fl) (m : Ms) (k : Nat) (x : Fd) : (fdErr (bareFl f) (bareMs m) k (bareFd x)).map (·.2) = (fdErr f m k x).map (·.2) := by
  unfold fdErr
  rw [bare_form, bare_kind]
  show Option.map _ (if fdForm m k x = true then _ else if (decide (x.key ≠ []) && !keyOK x.key) = true then _ else _) = _
  split
  · rfl
  · split
    · rfl
    · show Option.map _ (if (kindF f x.type).isNone = true then _ else _) = _
      split <;> rfl
theorem bare_vl (e : En) (k : Nat) (x : Vl) : (vlErr (bareEn e) k (bareVl x)).map (·.2) = (vlErr e k x).map (·.2) := by
  unfold vlErr
  have h : (((bareEn e).V.take k).any fun y => y.name == (bareVl x).name || y.n == (bareVl x).n) = ((e.V.take k).any fun y => y.name == x.name || y.n == x.n) := by
    simp [bareEn, bareVl, ← List.map_take, List.any_map, Function.comp_def]
  rw [h]
  show Option.map _ (if (_ || decide (x.n < -2147483648) || decide (2147483647 < x.n) || (k == 0 && x.n != 0)) = true then _ else _) = _
  split <;> rfl
theorem find_code {α : Type} (g g' : α → Option (Int × Nat)) (h : ∀ x, (g' x).map (·.2) = (g x).map (·.2)) (l : List α) : (l.findSome? g').map (·.2) = (l.findSome? g).map (·.2) := by
  induction l with
  | nil => rfl
  | cons x l ih =>
    have hx := h x
    simp only [List.findSome?_cons]
    cases h1 : g' x <;> cases h2 : g x <;> simp [h1, h2] at hx ⊢
    · simpa using ih
    · exact hx
theorem find_code2 {α β : Type} (b : β → α) (g' : α → Option (Int × Nat)) (g : β → Option (Int × Nat)) (h : ∀ x, (g' (b x)).map (·.2) = (g x).map (·.2)) (l : List β) : ((l.map b).findSome? g').map (·.2) = (l.findSome? g).map (·.2) := by
  rw [List.findSome?_map]
  exact find_code _ _ h l
theorem first_code {α : Type} (b : α → α) (g' g : Nat → α → Option (Int × Nat)) (h : ∀ k x, (g' k (b x)).map (·.2) = (g k x).map (·.2)) (l : List α) : (firstOf g' (l.map b)).map (·.2) = (firstOf g l).map (·.2) := by
  unfold firstOf
  rw [List.length_map]
  apply find_code
  intro k
  rw [List.getElem?_map]
  cases l[k]? with
  | none => rfl
  | some x => exact h k x
theorem or_code (a b c d : Option (Int × Nat)) (h1 : a.map (·.2) = b.map (·.2)) (h2 : c.map (·.2) = d.map (·.2)) : (a.or c).map (·.2) = (b.or d).map (·.2) := by
  cases a <;> cases b <;> simp_all
theorem bare_err (f : Fl) : (errR (bareFl f)).map (·.2) = (errR f).map (·.2) := by
  unfold errR
  have h0 : sizeBad (bareFl f) = sizeBad f := by unfold sizeBad; rw [bare_lenM, bare_lenE]
  rw [h0]
  split
  · rfl
  · apply or_code
    · apply or_code
      · unfold errH
        rw [bare_names]
        exact find_code _ _ (bare_hd f) _
      · exact find_code2 bareMs _ _ (fun m => first_code bareFd _ _ (fun k x => bare_fd f m k x) m.F) f.M
    · exact find_code2 bareEn _ _ (fun e => first_code bareVl _ _ (fun k x => bare_vl e k x) e.V) f.E
theorem bare_def (f : Fl) (x : Fd) : defF (bareFl f) (bareFd x) = defF f x := by
  unfold defF
  rw [bare_kind]
  rfl
theorem bare_sch (f : Fl) : schF (bareFl f) = schF f := by
  unfold schF
  simp only [bareFl, List.map_map]
  congr 1
  · apply List.map_congr_left
    intro m _
    simp only [Function.comp_def, msgD, bareMs, List.map_map]
    congr 2
    apply List.map_congr_left
    intro x _
    exact bare_def f x
  · apply List.map_congr_left
    intro e _
    simp [Function.comp_def, enD, bareEn, bareVl]
/-- Files that are the same but for where things begin are resolved alike. -/
theorem tab_bare {f g : Fl} (h : bareFl f = bareFl g) : tabS f = tabS g ∧ tabE f = tabE g := by
  have h1 : (errR f).map (·.2) = (errR g).map (·.2) := by rw [← bare_err f, ← bare_err g, h]
  have h2 : (errR f).isSome = (errR g).isSome := by
    have := congrArg Option.isSome h1
    simpa using this
  refine ⟨?_, ?_⟩
  · unfold tabS
    rw [h2, ← bare_sch f, ← bare_sch g, h]
  · unfold tabE
    rw [h1]
end Go.Proofs.YtciiemomfniecaaGreatDoor
/-
  What is read of a text is within the numbers' bounds.
-/
namespace Go.Proofs.YtciiemomfniecaaGreatDoor
set_option maxRecDepth 100000

theorem lex_in : ∀ (l : List UInt8) (k p : Nat), ∀ t ∈ (lex Lib.itoa k p l).1, t.text.length ≤ l.length ∧ inr t.num ∧ t.at_ ≤ p + l.length
  | [], k, p, t, h => by cases k <;> simp [lex] at h
  | c :: r, k + 1, p, t, h => by
    simp only [lex] at h
    obtain ⟨h1, h2, h3⟩ := lex_in r k (p + 1) t h
    exact ⟨by simp; omega, h2, by simp; omega⟩
  | c :: r, 0, p, t, h => by
    simp only [lex] at h
    split at h
    · obtain ⟨h1, h2, h3⟩ := lex_in r _ (p + 1) t h
      exact ⟨by simp; omega, h2, by simp; omega⟩
    · split at h
      · simp at h
      · rename_i x hx
        rcases List.mem_cons.1 h with rfl | h
        · have s1 := span_le isNext r
          have s2 := span_le isDigit r
          have z : inr 0 := by unfold inr; omega
          simp only [tk] at hx
          by_cases h1 : isFirst c = true
          · rw [if_pos h1] at hx
            injection hx with hx
            subst hx
            exact ⟨by simp; omega, z, by simp⟩
          · rw [if_neg h1] at hx
            by_cases h2 : (isDigit c || c == 45) = true
            · rw [if_pos h2] at hx
              simp only [Option.map_eq_some_iff] at hx
              obtain ⟨n, hn, rfl⟩ := hx
              exact ⟨by simp; omega, (numOf_some hn).2, by simp⟩
            · rw [if_neg h2] at hx
              by_cases h3 : (c == 34) = true
              · rw [if_pos h3] at hx
                simp only [Option.map_eq_some_iff] at hx
                obtain ⟨y, hy, rfl⟩ := hx
                have := strB_text _ _ hy
                exact ⟨by simp; omega, z, by simp⟩
              · rw [if_neg h3] at hx
                split at hx
                · injection hx with hx
                  subst hx
                  exact ⟨by simp, z, by simp⟩
                · cases hx
        · obtain ⟨h1, h2, h3⟩ := lex_in r x.more (p + 1) t h
          exact ⟨by simp; omega, h2, by simp; omega⟩
def TIn (t : T) : Prop := t.text.length ≤ maxLen ∧ inr t.num ∧ inr (t.at_ : Int)
theorem toks_in (L : List UInt8) : ∀ t ∈ toksOf L, TIn t := by
  intro t ht
  unfold toksOf allT ansT at ht
  split at ht
  · simp at ht
  · split at ht
    · simp at ht
    · split at ht
      · simp at ht
      · obtain ⟨h1, h2, h3⟩ := lex_in L 0 0 t ht
        refine ⟨by unfold maxLen; omega, h2, by unfold inr; omega⟩
structure CIn (c : C) : Prop where
  f : FlIn c.f
  m : MsIn c.m
  d : FdIn c.d
  e : EnIn c.e
  v : VlIn c.v
theorem inr_0 : inr 0 := by unfold inr; omega
theorem nil_in : ([] : List UInt8).length ≤ maxLen := Nat.zero_le _
theorem map_in : wMap.length ≤ maxLen := by unfold wMap maxLen; simp
theorem fl_addM {f : Fl} {m : Ms} (h : FlIn f) (hm : MsIn m) : FlIn (f.addM m) := by
  refine ⟨fun x hx => ?_, h.E⟩
  simp only [Fl.addM, List.mem_append, List.mem_singleton] at hx
  rcases hx with hx | rfl
  · exact h.M x hx
  · exact hm
theorem fl_addE {f : Fl} {m : En} (h : FlIn f) (hm : EnIn m) : FlIn (f.addE m) := by
  refine ⟨h.M, fun x hx => ?_⟩
  simp only [Fl.addE, List.mem_append, List.mem_singleton] at hx
  rcases hx with hx | rfl
  · exact h.E x hx
  · exact hm
theorem ms_begin {a : Int} (h : inr a) : MsIn ⟨[], [], [], [], a⟩ := ⟨nil_in, fun _ hx => by simp at hx, fun _ hx => by simp at hx, fun _ hx => by simp at hx, h⟩
theorem ms_name {m : Ms} (h : MsIn m) {x : List UInt8} (hx : x.length ≤ maxLen) : MsIn { m with name := x } := ⟨hx, h.F, h.ones, h.res, h.at_⟩
theorem ms_add {m : Ms} (h : MsIn m) {d : Fd} (hd : FdIn d) : MsIn (m.add d) := by
  refine ⟨h.name, fun x hx => ?_, h.ones, h.res, h.at_⟩
  simp only [Ms.add, List.mem_append, List.mem_singleton] at hx
  rcases hx with hx | rfl
  · exact h.F x hx
  · exact hd
theorem ms_one {m : Ms} (h : MsIn m) {y : List UInt8} (hy : y.length ≤ maxLen) : MsIn { m with ones := m.ones ++ [y] } := by
  refine ⟨h.name, h.F, fun x hx => ?_, h.res, h.at_⟩
  simp only [List.mem_append, List.mem_singleton] at hx
  rcases hx with hx | rfl
  · exact h.ones x hx
  · exact hy
theorem ms_res {m : Ms} (h : MsIn m) {n : Int} (hn : inr n) : MsIn { m with res := m.res ++ [n] } := by
  refine ⟨h.name, h.F, h.ones, fun x hx => ?_, h.at_⟩
  simp only [List.mem_append, List.mem_singleton] at hx
  rcases hx with hx | rfl
  · exact h.res x hx
  · exact hn
theorem en_begin {a : Int} (h : inr a) : EnIn ⟨[], [], a⟩ := ⟨nil_in, fun _ hx => by simp at hx, h⟩
theorem en_name {m : En} (h : EnIn m) {x : List UInt8} (hx : x.length ≤ maxLen) : EnIn { m with name := x } := ⟨hx, h.V, h.at_⟩
theorem en_add {m : En} (h : EnIn m) {d : Vl} (hd : VlIn d) : EnIn { m with V := m.V ++ [d] } := by
  refine ⟨h.name, fun x hx => ?_, h.at_⟩
  simp only [List.mem_append, List.mem_singleton] at hx
  rcases hx with hx | rfl
  · exact h.V x hx
  · exact hd
theorem fd_new {x : List UInt8} {b : Bool} {o a : Int} (hx : x.length ≤ maxLen) (ho : inr o) (ha : inr a) : FdIn ⟨x, [], b, o, [], 0, a⟩ := ⟨hx, nil_in, nil_in, ho, inr_0, ha⟩
theorem fd_type {d : Fd} (h : FdIn d) {x : List UInt8} (hx : x.length ≤ maxLen) : FdIn { d with type := x } := ⟨hx, h.key, h.name, h.one, h.no, h.at_⟩
theorem fd_key {d : Fd} (h : FdIn d) {x : List UInt8} (hx : x.length ≤ maxLen) : FdIn { d with key := x } := ⟨h.type, hx, h.name, h.one, h.no, h.at_⟩
theorem fd_name {d : Fd} (h : FdIn d) {x : List UInt8} (hx : x.length ≤ maxLen) : FdIn { d with name := x } := ⟨h.type, h.key, hx, h.one, h.no, h.at_⟩
theorem fd_no {d : Fd} (h : FdIn d) {n : Int} (hn : inr n) : FdIn { d with no := n } := ⟨h.type, h.key, h.name, h.one, hn, h.at_⟩
theorem step_in {c c' : C} {t : T} (ho : inr (c.m.ones.length : Int)) (ht : TIn t) (h : CIn c) (hs : step c t = some c') : CIn c' := by
  obtain ⟨t1, t2, t3⟩ := ht
  obtain ⟨g1, g2, g3, g4, g5⟩ := h
  have z := inr_0
  obtain ⟨pc, f, m, d, o, e, v⟩ := c
  simp only at ho g1 g2 g3 g4 g5
  cases pc <;> simp only [step] at hs <;> (repeat' (split at hs)) <;> try (cases hs; done)
  all_goals
    obtain rfl := Option.some.inj hs
    refine ⟨?_, ?_, ?_, ?_, ?_⟩
    · first | exact g1 | exact fl_addM g1 g2 | exact fl_addE g1 g4
    · first | exact g2 | exact ms_begin z | exact ms_begin t3 | exact ms_name g2 t1 | exact ms_add g2 g3 | exact ms_one g2 t1 | exact ms_res g2 t2
    · first | exact g3 | exact fd_new nil_in z z | exact fd_new nil_in z t3 | exact fd_new map_in z t3 | exact fd_new t1 z t3 | exact fd_new t1 ho t3 | exact fd_type g3 t1 | exact fd_type g3 nil_in | exact fd_key g3 t1 | exact fd_name g3 t1 | exact fd_no g3 t2
    · first | exact g4 | exact en_begin z | exact en_begin t3 | exact en_name g4 t1 | exact en_add g4 g5
    · first | exact g5 | exact ⟨nil_in, z, z⟩ | exact ⟨t1, z, t3⟩ | exact ⟨g5.name, t2, g5.at_⟩
theorem step_ones {c c' : C} {t : T} {n : Nat} (h : c.m.ones.length ≤ n) (hs : step c t = some c') : c'.m.ones.length ≤ n + 1 := by
  obtain ⟨pc, f, m, d, o, e, v⟩ := c
  simp only at h
  cases pc <;> simp only [step] at hs <;> (repeat' (split at hs)) <;> try (cases hs; done)
  all_goals
    obtain rfl := Option.some.inj hs
    first | (show m.ones.length ≤ n + 1; omega) | exact Nat.zero_le _ | (simp only [List.length_append, List.length_singleton]; omega)
theorem run_in : ∀ (l : List T) (c : C) (n : Nat), c.m.ones.length ≤ n → n + l.length ≤ 100000 → (∀ t ∈ l, TIn t) → CIn c → CIn (run c l).1
  | [], _, _, _, _, _, h => h
  | t :: l, c, n, hn, hl, ht, h => by
    rw [List.length_cons] at hl
    cases hs : step c t with
    | none => rw [run_none hs]; exact h
    | some c' =>
      rw [run_some hs]
      exact run_in l c' (n + 1) (step_ones hn hs) (by omega) (fun x hx => ht x (by simp [hx])) (step_in (by unfold inr; omega) (ht t (by simp)) h hs)
theorem flin_par (L : List UInt8) : FlIn (parF L) := by
  unfold parF
  split
  · have hl := toks_few L
    have z := inr_0
    exact (run_in (toksOf L) c0 0 (by simp [c0, m0]) (by omega) (toks_in L) ⟨⟨fun _ hx => by simp [c0] at hx, fun _ hx => by simp [c0] at hx⟩, ms_begin z, ⟨nil_in, nil_in, nil_in, z, z, z⟩, en_begin z, ⟨nil_in, z, z⟩⟩).f
  · exact ⟨fun _ hx => by simp at hx, fun _ hx => by simp at hx⟩
end Go.Proofs.YtciiemomfniecaaGreatDoor
