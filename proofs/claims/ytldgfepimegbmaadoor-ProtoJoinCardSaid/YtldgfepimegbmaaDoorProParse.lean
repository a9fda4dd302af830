/-
  A text is parsed: the contract.
-/
import Derived.Test.YtldgfepimegbmaaDoorProFiles
import Derived.Test.YtldgfepimegbmaaDoorProRun
import Derived.Test.YtldgfepimegbmaaDoorTokAll
namespace Go.Proofs.YtldgfepimegbmaaDoor
set_option maxRecDepth 100000
open Go.RowKit

/-- What is told of a text. -/
def toksOf (L : List UInt8) : List T := allT Lib.itoa L
def errOf (L : List UInt8) : Nat := allE Lib.itoa L
def parOK (L : List UInt8) : Bool := errOf L == 0 && okR (run c0 (toksOf L))
def parF (L : List UInt8) : Fl := if parOK L then (run c0 (toksOf L)).1.f else ⟨[], []⟩
def parAt (L : List UInt8) : Nat := if errOf L == 0 then (if okR (run c0 (toksOf L)) then L.length else S.place L.length ⟨(run c0 (toksOf L)).2, true⟩) else allAt Lib.itoa L
def parE (L : List UInt8) : Nat := if errOf L == 0 then (if okR (run c0 (toksOf L)) then 0 else 4) else errOf L
theorem toks_few (L : List UInt8) : (toksOf L).length ≤ 1000 := by
  unfold toksOf allT ansT
  split
  · simp
  · split
    · simp
    · split
      · simp
      · omega
def ParPost (F : Fl) (p e : Nat) (w : World) (r : Ending) (w' : World) : Prop := ∃ vM vE, r = .returned (.tuple #[.agg #[vM, vE], .int .i64 p, .int .i64 e]) ∧ FRead w' F vM vE ∧ Below w.heap.size w w'
theorem results_fl3 {fn : Func} {p u v : Tmp} (h : fn.results = #[.cell p 26, .tmp u, .tmp v]) (tmps : Array Value) (w : World) (g : Nat) (t : TypeId) (u0 u1 : Value) (fr : Nat × Nat)
    (hp : tmps.getD p undef = .pointer (some ⟨g, 0, none⟩)) (hg : w.heap[g]? = some (.cells #[u0, u1] t fr)) :
    (results fn tmps).run Tryd.prog w = .ok (.tuple #[.agg #[u0, u1], tmps.getD u undef, tmps.getD v undef]) w :=
  results_row_tmp2 h tmps w g t _ fr _ hp hg Tryd.underlying26 rfl infoFl
theorem Kp.below {B P : Nat} {a w : World} (h : Kp B P a w) (hP : a.heap.size ≤ P) (hB : a.heap.size ≤ B) : Below a.heap.size a w := ⟨h.os, h.tape, h.output, h.size, fun k hk => h.block k (by omega) (by omega)⟩

set_option maxHeartbeats 4000000 in
theorem parse_any (s : ByteArray) (hs : s.size ≤ 1000000) (w : World) (LV : Laid w) :
    Calls Tryd.prog 8 #[.string s] w (ParPost (parF s.data.toList) (parAt s.data.toList) (parE s.data.toList) w) := by
  have hsl : s.data.toList.length = s.size := by simp
  have hall := all_any s hs (w.alloc (.cells #[.slice none 0 0, .slice none 0 0] 26)) (LV.on (below_new _ _))
  have hfew := toks_few s.data.toList
  change Calls _ _ _ _ (fun e w' => AllPost (toksOf s.data.toList) (allAt Lib.itoa s.data.toList) (errOf s.data.toList) _ e w') at hall
  have hF : parF s.data.toList = if (errOf s.data.toList == 0 && okR (run c0 (toksOf s.data.toList))) then (run c0 (toksOf s.data.toList)).1.f else ⟨[], []⟩ := rfl
  have hA : parAt s.data.toList = if errOf s.data.toList == 0 then (if okR (run c0 (toksOf s.data.toList)) then s.data.toList.length else S.place s.data.toList.length ⟨(run c0 (toksOf s.data.toList)).2, true⟩) else allAt Lib.itoa s.data.toList := rfl
  have hE : parE s.data.toList = if errOf s.data.toList == 0 then (if okR (run c0 (toksOf s.data.toList)) then 0 else 4) else errOf s.data.toList := rfl
  rw [hsl] at hA
  have hfr := file_run s.size (toksOf s.data.toList)
  generalize parF s.data.toList = XF at *
  generalize parAt s.data.toList = XA at *
  generalize parE s.data.toList = XE at *
  generalize toksOf s.data.toList = l at *
  generalize allAt Lib.itoa s.data.toList = at0 at *
  generalize errOf s.data.toList = er at *
  have HALL := Lib.hid hall
  clear hall hsl
  by_cases h0 : er = 0
  · subst h0
    simp only [beq_self_eq_true, Bool.true_and, if_true] at hF hA hE
    have HF := Lib.hid hF
    have HA := Lib.hid hA
    have HE := Lib.hid hE
    have HFR := Lib.hid hfr
    clear hF hA hE hfr
    go_enter Tryd.func8, Tryd.ntmps8
    go_wp2_with fail
    refine HALL.out.mono ?_
    rintro e w1 ⟨v, rfl, hown, hb1⟩
    obtain ⟨A, c, rfl, hl⟩ := SlT.of_own hown
    have hlt1 := hown.lt
    have hs1 := hb1.size
    simp at hs1
    have HR1 := Lib.hid ((hb1.block w.heap.size (by simp)).trans (heap_alloc_new w _))
    have HB1 := Lib.hid (below_then (below_new w _) hb1)
    have HL := Lib.hid hl
    have HO := Lib.hid hown
    clear hl hown hb1
    go_wp2_with fail
    have hp1 : PSt (w1.alloc (.cells #[.slice A l.length c, .int .i64 s.size, .bool false] 51)) w1.heap.size s.size ⟨l, false⟩ := ⟨A, c, heap_alloc_new w1 _, HL.out.on (below_new _ _), fun ad ha => (hlt1 ad.block (by rw [ha]; rfl)).2⟩
    refine (file_any w1.heap.size s.size ⟨l, false⟩ _ hp1 (by simp [S.mu]; omega)).mono ?_
    rintro e w2 ⟨vM, vE, rfl, hf2, hp2, hg2⟩
    obtain ⟨AM, cM, rfl⟩ : ∃ AM cM, vM = .slice AM (fileF s.size ⟨l, false⟩ ⟨[], []⟩).2.M.length cM := by obtain ⟨xs, ys, r1, r2, r3, r4⟩ := hf2; obtain ⟨a, b, h, -⟩ := Sl.of_own r1; exact ⟨a, b, h⟩
    obtain ⟨AE, cE, rfl⟩ : ∃ AE cE, vE = .slice AE (fileF s.size ⟨l, false⟩ ⟨[], []⟩).2.E.length cE := by obtain ⟨xs, ys, r1, r2, r3, r4⟩ := hf2; obtain ⟨a, b, h, -⟩ := Sl.of_own r3; exact ⟨a, b, h⟩
    have hs2 := hg2.size
    simp at hs2
    have hb2 : Below w.heap.size w w2 := ((Kp.refl (w.heap.size + 1) w1.heap.size w1).alloc hs1 (.cells #[.slice A l.length c, .int .i64 s.size, .bool false] 51)).taken hg2 (by simp; omega) |> fun k => HB1.out.trans ⟨k.os, k.tape, k.output, k.size, fun i hi => k.block i (by omega) (by omega)⟩
    have hr2 := (hg2.block w.heap.size (by simp; omega) (by simp; omega)).trans ((Below.heap_alloc w1 (.cells #[.slice A l.length c, .int .i64 s.size, .bool false] 51) w.heap.size (by omega)).trans HR1.out)
    change PSt w2 w1.heap.size s.size (endF s.size l) at hp2
    obtain ⟨A2, q2, hpb, hpl, hpa⟩ := id hp2
    have c2 := heap_cell hpb 2
    simp at c2
    have hlt2 : w1.heap.size < w2.heap.size := by omega
    have HR2 := Lib.hid ((Below.heap_alloc w2 (.cells #[.slice AM (fileF s.size ⟨l, false⟩ ⟨[], []⟩).2.M.length cM, .slice AE (fileF s.size ⟨l, false⟩ ⟨[], []⟩).2.E.length cE] 26) w.heap.size (by omega)).trans hr2)
    have HB2 := Lib.hid (below_lit hb2 (.cells #[.slice AM (fileF s.size ⟨l, false⟩ ⟨[], []⟩).2.M.length cM, .slice AE (fileF s.size ⟨l, false⟩ ⟨[], []⟩).2.E.length cE] 26))
    have HFB := Lib.hid (heap_alloc_new w2 (.cells #[.slice AM (fileF s.size ⟨l, false⟩ ⟨[], []⟩).2.M.length cM, .slice AE (fileF s.size ⟨l, false⟩ ⟨[], []⟩).2.E.length cE] 26))
    have HF2 := Lib.hid (hf2.on (below_new w2 (.cells #[.slice AM (fileF s.size ⟨l, false⟩ ⟨[], []⟩).2.M.length cM, .slice AE (fileF s.size ⟨l, false⟩ ⟨[], []⟩).2.E.length cE] 26)))
    have HP2 := Lib.hid (hp2.alloc (.cells #[.slice AM (fileF s.size ⟨l, false⟩ ⟨[], []⟩).2.M.length cM, .slice AE (fileF s.size ⟨l, false⟩ ⟨[], []⟩).2.E.length cE] 26))
    have g3 : (Value.slice none 0 0).oneCell' = true := rfl
    obtain ⟨f1, f2, f3⟩ := HFR.out
    clear hr2 hb2 hpb hpl hpa hp2 hf2 hg2 hlt1
    cases hok : okR (run c0 l)
    · rw [hok] at f1
      rw [f1] at c2
      have hx1 : XF = ⟨[], []⟩ := by rw [HF.out, hok]; rfl
      have hx2 : XA = S.place s.size (endF s.size l) := by
        rw [HA.out, hok]
        simp only [Bool.false_eq_true, if_false]
        unfold S.place
        simp only [f2]
      have hx3 : XE = 4 := by rw [HE.out, hok]; rfl
      have HX := Lib.hid (show XF = ⟨[], []⟩ ∧ XA = S.place s.size (endF s.size l) ∧ XE = 4 from ⟨hx1, hx2, hx3⟩)
      clear hx1 hx2 hx3 f1 f2 f3 hok
      go_wp2_with fail
      refine (place_any w1.heap.size s.size (endF s.size l) _ HP2.out).mono ?_
      rintro e w3 ⟨rfl, rfl⟩
      go_wp2_with (refine wpList_store_fl rfl _ _ rfl rfl w.heap.size _ _ _ _ rfl rfl g3 g3 _ HR2.out ?_)
      refine bodyPost_ret (results_fl3 rfl _ _ w.heap.size _ _ _ (0, 0) rfl (setRow_heap _ _ _ _ _ _ HR2.out)) rfl ?_
      obtain ⟨rfl, rfl, rfl⟩ := HX.out
      exact ⟨_, _, rfl, FRead.nothing _, below_setRow HB2.out (Nat.le_refl _) _⟩
    · rw [hok] at f1
      rw [f1] at c2
      have hx1 := f3 hok
      have hx2 : XA = s.size := by rw [HA.out, hok]; rfl
      have hx3 : XE = 0 := by rw [HE.out, hok]; rfl
      have hx4 : XF = (run c0 l).1.f := by rw [HF.out, hok]; rfl
      have HX := Lib.hid (show XF = (fileF s.size ⟨l, false⟩ ⟨[], []⟩).2 ∧ XA = s.size ∧ XE = 0 from ⟨by rw [hx4, hx1], hx2, hx3⟩)
      clear hx1 hx2 hx3 hx4 f1 f2 f3 hok
      go_wp2_with (refine wpList_store_fl rfl _ _ rfl rfl w.heap.size _ _ _ _ rfl rfl rfl rfl _ HR2.out ?_)
      refine bodyPost_ret (results_fl3 rfl _ _ w.heap.size _ _ _ (0, 0) rfl (setRow_heap _ _ _ _ _ _ HR2.out)) rfl ?_
      obtain ⟨rfl, rfl, rfl⟩ := HX.out
      have hgr : (w2.alloc (.cells #[.slice AM (fileF s.size ⟨l, false⟩ ⟨[], []⟩).2.M.length cM, .slice AE (fileF s.size ⟨l, false⟩ ⟨[], []⟩).2.E.length cE] 26)).grownBy ((w2.alloc (.cells #[.slice AM (fileF s.size ⟨l, false⟩ ⟨[], []⟩).2.M.length cM, .slice AE (fileF s.size ⟨l, false⟩ ⟨[], []⟩).2.E.length cE] 26)).setRow w.heap.size #[.slice AM (fileF s.size ⟨l, false⟩ ⟨[], []⟩).2.M.length cM, .slice AE (fileF s.size ⟨l, false⟩ ⟨[], []⟩).2.E.length cE]) (some w.heap.size) := ⟨rfl, rfl, rfl, by simp, fun k _ hk => setRow_other _ _ _ _ (by simpa using hk)⟩
      have hlf := Leaf.grown hgr HR2.out rfl
      obtain ⟨xs', ys', r1, r2, r3, r4⟩ := HF2.out
      exact ⟨_, _, rfl, ⟨xs', ys', own_other r1 hgr HR2.out (by decide), r2.leaf hlf, own_other r3 hgr HR2.out (by decide), r4.leaf hlf⟩, below_setRow HB2.out (Nat.le_refl _) _⟩
  · have hb : (er == 0) = false := by simpa using h0
    have hbi : ((er : Int) != 0) = true := by rw [bne_iff_ne]; omega
    simp only [hb, Bool.false_and, Bool.false_eq_true, if_false] at hF hA hE
    have HX := Lib.hid (show XF = ⟨[], []⟩ ∧ XA = at0 ∧ XE = er from ⟨hF, hA, hE⟩)
    clear hF hA hE hfr h0 hb
    have g3 : (Value.slice none 0 0).oneCell' = true := rfl
    go_enter Tryd.func8, Tryd.ntmps8
    go_wp2_with fail
    refine HALL.out.mono ?_
    rintro e w1 ⟨v, rfl, hown, hb1⟩
    obtain ⟨A, c, rfl, hl⟩ := SlT.of_own hown
    have HR1 := Lib.hid ((hb1.block w.heap.size (by simp)).trans (heap_alloc_new w _))
    have HB1 := Lib.hid (below_then (below_new w _) hb1)
    clear hl hown hb1
    go_wp2_with (refine wpList_store_fl rfl _ _ rfl rfl w.heap.size _ _ _ _ rfl rfl g3 g3 _ HR1.out ?_)
    refine bodyPost_ret (results_fl3 rfl _ _ w.heap.size _ _ _ (0, 0) rfl (setRow_heap _ _ _ _ _ _ HR1.out)) rfl ?_
    obtain ⟨rfl, rfl, rfl⟩ := HX.out
    exact ⟨_, _, rfl, FRead.nothing _, below_setRow HB1.out (Nat.le_refl _) _⟩
end Go.Proofs.YtldgfepimegbmaaDoor
