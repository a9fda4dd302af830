/-
  The chapter's example, and what the statements' rows lay: the contract of the statements' own first call.
-/
import Derived.Test.YtldgfepimegbmaaDoorProSame7
import Derived.Test.YtldgfepimegbmaaDoorProParse
import Derived.Test.YtldgfepimegbmaaDoorTied
import Derived.Stop.LaidErr
namespace Go.Proofs.YtldgfepimegbmaaDoor
set_option maxRecDepth 100000
open Go.RowKit

def ex7 : List UInt8 := [109, 101, 115, 115, 97, 103, 101, 32, 65, 32, 123, 32, 105, 110, 116, 54, 52, 32, 97, 32, 61, 32, 49, 59, 32, 125]
def ex7T : List T := [⟨0, [109, 101, 115, 115, 97, 103, 101], 0, 0⟩, ⟨0, [65], 0, 8⟩, ⟨3, [123], 0, 10⟩, ⟨0, [105, 110, 116, 54, 52], 0, 12⟩, ⟨0, [97], 0, 18⟩, ⟨3, [61], 0, 20⟩, ⟨1, [49], 1, 22⟩, ⟨3, [59], 0, 23⟩, ⟨3, [125], 0, 25⟩]
def ex7D : Fd := ⟨[105, 110, 116, 54, 52], [], false, 0, [97], 1, 12⟩
def ex7M : Ms := ⟨[65], [ex7D], [], [], 0⟩
def ex7F : Fl := ⟨[ex7M], []⟩
def ex7P : List UInt8 := [109, 101, 115, 115, 97, 103, 101, 32, 65, 32, 123, 10, 32, 32, 105, 110, 116, 54, 52, 32, 97, 32, 61, 32, 49, 59, 10, 125, 10]
theorem itoa_1 : Lib.itoa 1 = [49] := by
  rw [itoa_nonneg _ (by decide), show (1 : Int).toNat = 1 from rfl, Lib.decDigits_one (by decide)]; rfl
theorem num_1 : numOf Lib.itoa [49] = some 1 := by
  have h := numOf_itoa (n := 1) (by omega) (by omega)
  rwa [itoa_1] at h
theorem ex7_lex (it : Int → List UInt8) (h : numOf it [49] = some 1) : lex it 0 0 ex7 = (ex7T, none) := by
  have h1 : lex it 0 0 ex7 = (ex7T.take 6 ++ (lex it 0 22 [49, 59, 32, 125]).1, (lex it 0 22 [49, 59, 32, 125]).2) := rfl
  have h2 : tk it [49, 59, 32, 125] = some ⟨1, [49], 1, 0⟩ := by
    have : tk it [49, 59, 32, 125] = (numOf it [49]).map fun n => ⟨1, [49], n, 0⟩ := rfl
    rw [this, h]; rfl
  rw [h1, lex_some rfl h2]
  rfl
theorem ex7_all : toksOf ex7 = ex7T ∧ errOf ex7 = 0 := by
  have h := ex7_lex Lib.itoa num_1
  simp only [toksOf, errOf, allT, allE, h]
  exact ⟨rfl, rfl⟩
theorem ex7_run : run c0 ex7T = ({ pc := .top, f := ex7F }, []) := rfl
theorem ex7_par : parF ex7 = ex7F ∧ parAt ex7 = 26 ∧ parE ex7 = 0 := by
  simp only [parF, parAt, parE, parOK, ex7_all.1, ex7_all.2, ex7_run]
  exact ⟨rfl, rfl, rfl⟩
theorem ex7_text : fileB ex7F = ex7P := by
  have h : digB 1 = [49] := itoa_1
  have e : fieldB [32, 32] ex7D = [32, 32, 105, 110, 116, 54, 52, 32, 97, 32, 61, 32] ++ digB 1 ++ [59, 10] := by
    simp only [fieldB, lineB, typeB, ex7D]
    simp
  have e2 : fileB ex7F = [109, 101, 115, 115, 97, 103, 101, 32, 65, 32, 123, 10] ++ fieldB [32, 32] ex7D ++ [125, 10] := by
    simp only [fileB, ex7F, messageB, ex7M, List.map_cons, List.map_nil, List.flatten_cons, List.flatten_nil, List.append_nil]
    have hi : itemsB [] (memsB ([] : List (List UInt8)).length [ex7D]) [ex7D] = fieldB [32, 32] ex7D := by
      rw [items_out (by decide)]; simp [itemsB]
    rw [hi]
    simp [lineB, wMessage]
  rw [e2, e, h]; rfl
theorem ex7_ok : FlOk ex7F := by
  refine ⟨fun m hm => ?_, fun e he => (by cases he), by decide, by decide⟩
  obtain rfl : m = ex7M := by simpa [ex7F] using hm
  refine ⟨fun d hd => ?_, fun n hn => (by cases hn), by decide, by decide, by decide⟩
  obtain rfl : d = ex7D := by simpa [ex7M] using hd
  exact ⟨by decide, by decide, by decide, by decide, by decide⟩
set_option maxHeartbeats 4000000 in
theorem awake7_any (w : World) (LV : Laid w) : Calls Tryd.prog 7 #[] w fun e w' => e = .returned (.bool true) ∧ Below w.heap.size w w' := by
  obtain ⟨s, hs⟩ : ∃ s, s = txt ex7 := ⟨_, rfl⟩
  have hs' : (⟨#[109, 101, 115, 115, 97, 103, 101, 32, 65, 32, 123, 32, 105, 110, 116, 54, 52, 32, 97, 32, 61, 32, 49, 59, 32, 125]⟩ : ByteArray) = s := hs.symm
  have hpar := parse_any s (by rw [hs]; decide) w LV
  rw [hs, txt_list, ex7_par.1, ex7_par.2.1, ex7_par.2.2, ← hs] at hpar
  have HPAR := Lib.hid hpar
  have HLV := Lib.hid LV
  clear hpar hs LV
  go_enter Tryd.func7, Tryd.ntmps7
  simp only [hs']
  clear hs'
  go_wp2_with fail
  refine HPAR.out.mono ?_
  rintro e w1 ⟨vM, vE, rfl, hf, hb⟩
  have HF := Lib.hid hf
  have HB := Lib.hid hb
  obtain ⟨xs, ys, h1, h2, h3, h4⟩ := hf
  obtain ⟨g, cap, vF, vO, vR, hv, hg, hr, c0, c1, c2, c3, c4⟩ := msrow_at (k := 0) (m := ex7M) h1 h2 rfl
  obtain ⟨gf, capf, hvf, hgf, d0, d1, d2, d3, d4, d5, d6⟩ := fd_at (k := 0) (d := ex7D) hr.f rfl
  obtain ⟨A2, q2, hvE, -⟩ := Sl.of_own h3
  subst hv hvf hvE
  simp only [Nat.zero_mul, Nat.zero_add] at c0 c1 c2 c3 c4 d0 d1 d2 d3 d4 d5 d6
  have HPR := Lib.hid (fun (w2 : World) (hb2 : Below w1.heap.size w1 w2) => print_any ex7F _ _ w2 ((HLV.out.on HB.out).on hb2) (HF.out.on hb2) ex7_ok (by rw [ex7_text]; decide))
  have e1 : ex7F.M.length = 1 := rfl
  have e2 : ex7F.E.length = 0 := rfl
  have e3 : ex7M.F.length = 1 := rfl
  have e4 : txt ex7D.name = ⟨#[97]⟩ := rfl
  rw [e4] at d4
  rw [e1, e2] at HPR
  rw [e3] at c1
  have HT : Hid (txt (fileB ex7F) = ⟨#[109, 101, 115, 115, 97, 103, 101, 32, 65, 32, 123, 10, 32, 32, 105, 110, 116, 54, 52, 32, 97, 32, 61, 32, 49, 59, 10, 125, 10]⟩) := Lib.hid (by rw [ex7_text]; rfl)
  clear h1 h2 h3 h4 hr hb c0 c2 c3 c4 d0 d1 d2 d3 d5 d6 e1 e2 e3 e4
  rw [show ex7F.M.length = 1 from rfl, show ex7F.E.length = 0 from rfl]
  go_wp2_with fail
  refine (HPR.out _ (below_new _ _)).mono ?_
  rintro e w2 ⟨rfl, hb2⟩
  rw [HT.out]
  have HB2 := Lib.hid ((below_lit HB.out _).trans (hb2.mono (by have := HB.out.size; simp; omega)))
  go_wp2
  go_ret
  exact ⟨by rfl, HB2.out⟩
/-- From the condition of a statement's row (the variables are laid as the program's text lays them) to what the contracts ask. -/
theorem star : "*" ++ "errors.errorString" = "*errors.errorString" := by decide
theorem row_err (u : TypeId) (h : Tryd.prog.typeName? 3 u = some "*errors.errorString") : u = 143 :=
  typeName_ptr_named (nm := "errors.errorString") (by rw [star]; kernel_rfl) (by kernel_rfl) (by decide) u (by rw [star]; exact h)
theorem laid_of {W : World} (h : laidMetH Tryd.prog [("math/bits.deBruijn32tab", Rows.laid_math_bits_deBruijn32tab), ("math/bits.deBruijn64tab", Rows.laid_math_bits_deBruijn64tab), ("internal/strconv.uint64pow10", Rows.laid_internal_strconv_uint64pow10), ("strconv.ErrRange", Rows.laid_strconv_ErrRange), ("strconv.ErrSyntax", Rows.laid_strconv_ErrSyntax)] W) : Laid W := by
  rw [MakeChecks.laidMetH_plain _ _ _ (by kernel_rfl)] at h
  have h3 := h.tail.tail
  have h4 := h3.tail
  have h5 := h4.tail
  have e : (Rows.laid_internal_strconv_uint64pow10 : DataW Unit) = Lib.tabData .u64 Lib.pow10Tab := by kernel_rfl
  rw [e] at h3
  have g3 : Tryd.prog.globalNamed "internal/strconv.uint64pow10" = some 1 := by kernel_rfl
  have t3 : (Tryd.prog.globals[1]?).map (·.type) = some 133 := by kernel_rfl
  have k1 : Tryd.prog.cellsOf 133 = 20 := by kernel_rfl
  have k2 : Tryd.prog.cellsOf 120 = 1 := by kernel_rfl
  have g4 : Tryd.prog.globalNamed "strconv.ErrRange" = some 3 := by kernel_rfl
  have t4 : (Tryd.prog.globals[3]?).map (·.type) = some 108 := by kernel_rfl
  have g5 : Tryd.prog.globalNamed "strconv.ErrSyntax" = some 2 := by kernel_rfl
  have t5 : (Tryd.prog.globals[2]?).map (·.type) = some 108 := by kernel_rfl
  have k3 : Tryd.prog.cellsOf 145 = 1 := by kernel_rfl
  have k4 : Tryd.prog.cellsOf 9 = 1 := by kernel_rfl
  have r4 := laid_sentinel h4 g4 t4 Tryd.underlying108 row_err Tryd.underlying143 Tryd.underlying145 rfl rfl Tryd.underlying9 k3 k4
  have r5 := laid_sentinel h5 g5 t5 Tryd.underlying108 row_err Tryd.underlying143 Tryd.underlying145 rfl rfl Tryd.underlying9 k3 k4
  obtain ⟨a4, s4, v4, -⟩ := r4
  obtain ⟨a5, s5, v5, -⟩ := r5
  exact ⟨Lib.tabIs_of_head g3 t3 Tryd.underlying133 Tryd.underlying120 k2 k1 h3, ⟨_, _, v5⟩, ⟨_, _, v4⟩⟩
end Go.Proofs.YtldgfepimegbmaaDoor
