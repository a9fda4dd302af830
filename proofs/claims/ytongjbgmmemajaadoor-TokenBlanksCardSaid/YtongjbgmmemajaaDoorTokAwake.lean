/-
  The chapter's example, and what the statements' rows lay: the contract of the statements' own first call.
-/
import Derived.Test.YtongjbgmmemajaaDoorTokAll
import Derived.Test.YtongjbgmmemajaaDoorTokQuote
import Derived.Test.YtongjbgmmemajaaDoorTied
import Derived.Stop.LaidErr
namespace Go.Proofs.YtongjbgmmemajaaDoor
open Go.RowKit

def exL : List UInt8 := [97, 32, 61, 32, 45, 53, 59]
def exT : List T := [⟨0, [97], 0, 0⟩, ⟨3, [61], 0, 2⟩, ⟨1, [45, 53], -5, 4⟩, ⟨3, [59], 0, 6⟩]
theorem num5 : numOf Lib.itoa [45, 53] = some (-5) := by
  have h := numOf_itoa (n := -5) (by omega) (by omega)
  have e : Lib.itoa (-5) = [45, 53] := by
    rw [itoa_neg _ (by decide), show (-5 : Int).natAbs = 5 from rfl, Lib.decDigits_one (by decide)]; rfl
  rwa [e] at h
theorem ex_lex (it : Int → List UInt8) (h : numOf it [45, 53] = some (-5)) : lex it 0 0 exL = (exT, none) := by
  have h1 : lex it 0 0 exL = (⟨0, [97], 0, 0⟩ :: ⟨3, [61], 0, 2⟩ :: (lex it 0 4 [45, 53, 59]).1, (lex it 0 4 [45, 53, 59]).2) := rfl
  have h2 : tk it [45, 53, 59] = some ⟨1, [45, 53], -5, 1⟩ := by
    have : tk it [45, 53, 59] = (numOf it [45, 53]).map fun n => ⟨1, [45, 53], n, 1⟩ := rfl
    rw [this, h]; rfl
  rw [h1, lex_some rfl h2]
  rfl
theorem ex_all : allT Lib.itoa exL = exT ∧ allAt Lib.itoa exL = 7 ∧ allE Lib.itoa exL = 0 := by
  have h := ex_lex Lib.itoa num5
  simp only [allT, allAt, allE, h]
  exact ⟨rfl, rfl, rfl⟩
theorem own_slice {w : World} {base : Nat} {e : TypeId} {size : Nat} {v : Value} {n : Nat} {xs : List Value} (h : w.ownsRow base e size v n xs) (hn : 0 < n) (hs : 0 < size) : ∃ g cap, v = .slice (some ⟨g, 0, none⟩) n cap ∧ base ≤ g := by
  rcases h.2 with ⟨rfl, rfl⟩ | ⟨g, cap, cur, rfl, hb, _⟩
  · have := h.1
    simp at this
    omega
  · exact ⟨g, cap, rfl, hb⟩
set_option maxRecDepth 100000 in
theorem awake_any (w : World) (LV : Laid w) : Calls Tryd.prog 9 #[] w fun e w' => e = .returned (.bool true) ∧ Below w.heap.size w w' := by
  obtain ⟨s, hs⟩ : ∃ s, s = txt exL := ⟨_, rfl⟩
  have hs' : (⟨#[97, 32, 61, 32, 45, 53, 59]⟩ : ByteArray) = s := hs.symm
  have hall := all_any s (by rw [hs]; decide) w LV
  rw [hs, txt_list, ex_all.1, ex_all.2.1, ex_all.2.2, ← hs] at hall
  have HALL := Lib.hid hall
  clear hall hs
  go_enter Tryd.func9, Tryd.ntmps9
  simp only [hs']
  clear hs'
  go_wp2_with fail
  refine HALL.out.mono ?_
  rintro e w1 ⟨v, rfl, hown, hb⟩
  obtain ⟨g, cap, rfl, hg⟩ := own_slice hown (by decide) (by decide)
  have c0 : w1.cell? ⟨g, 0, none⟩ = some (.int .i64 0) := hown.cellAt 0 (by decide)
  have c5 : w1.cell? ⟨g, 5, none⟩ = some (.string ⟨#[61]⟩) := hown.cellAt 5 (by decide)
  have c10 : w1.cell? ⟨g, 10, none⟩ = some (.int .i64 (-5)) := hown.cellAt 10 (by decide)
  have c12 : w1.cell? ⟨g, 12, none⟩ = some (.int .i64 3) := hown.cellAt 12 (by decide)
  have hq : ∀ w, Calls Tryd.prog 13 #[.string ⟨#[97]⟩] w fun e w' => e = .returned (.string ⟨#[34, 97, 34]⟩) ∧ Below w.heap.size w w' := fun w => quote_any ⟨#[97]⟩ (by decide) w
  have HQ := Lib.hid hq
  clear hown hq
  rw [show exT.length = 4 from rfl]
  go_wp2_with fail
  refine (HQ.out _).mono ?_
  rintro e w2 ⟨rfl, hb2⟩
  go_wp2
  go_ret
  exact ⟨rfl, below_then hb hb2⟩

/-- From the condition of a statement's row (the variables are laid as the program's text lays them) to what the contracts ask. -/
theorem star : "*" ++ "errors.errorString" = "*errors.errorString" := by decide
theorem row_err (u : TypeId) (h : Tryd.prog.typeName? 3 u = some "*errors.errorString") : u = 97 :=
  typeName_ptr_named (nm := "errors.errorString") (by rw [star]; kernel_rfl) (by kernel_rfl) (by decide) u (by rw [star]; exact h)
theorem laid_of {W : World} (h : laidMetH Tryd.prog [("math/bits.deBruijn32tab", Rows.laid_math_bits_deBruijn32tab), ("math/bits.deBruijn64tab", Rows.laid_math_bits_deBruijn64tab), ("internal/strconv.uint64pow10", Rows.laid_internal_strconv_uint64pow10), ("strconv.ErrRange", Rows.laid_strconv_ErrRange), ("strconv.ErrSyntax", Rows.laid_strconv_ErrSyntax)] W) : Laid W := by
  rw [MakeChecks.laidMetH_plain _ _ _ (by kernel_rfl)] at h
  have h3 := h.tail.tail
  have h4 := h3.tail
  have h5 := h4.tail
  have e : (Rows.laid_internal_strconv_uint64pow10 : DataW Unit) = Lib.tabData .u64 Lib.pow10Tab := by kernel_rfl
  rw [e] at h3
  have g3 : Tryd.prog.globalNamed "internal/strconv.uint64pow10" = some 0 := by kernel_rfl
  have t3 : (Tryd.prog.globals[0]?).map (·.type) = some 78 := by kernel_rfl
  have k1 : Tryd.prog.cellsOf 78 = 20 := by kernel_rfl
  have k2 : Tryd.prog.cellsOf 67 = 1 := by kernel_rfl
  have g4 : Tryd.prog.globalNamed "strconv.ErrRange" = some 3 := by kernel_rfl
  have t4 : (Tryd.prog.globals[3]?).map (·.type) = some 64 := by kernel_rfl
  have g5 : Tryd.prog.globalNamed "strconv.ErrSyntax" = some 2 := by kernel_rfl
  have t5 : (Tryd.prog.globals[2]?).map (·.type) = some 64 := by kernel_rfl
  have k3 : Tryd.prog.cellsOf 99 = 1 := by kernel_rfl
  have k4 : Tryd.prog.cellsOf 9 = 1 := by kernel_rfl
  have r4 := laid_sentinel h4 g4 t4 Tryd.underlying64 row_err Tryd.underlying97 Tryd.underlying99 rfl rfl Tryd.underlying9 k3 k4
  have r5 := laid_sentinel h5 g5 t5 Tryd.underlying64 row_err Tryd.underlying97 Tryd.underlying99 rfl rfl Tryd.underlying9 k3 k4
  obtain ⟨a4, s4, v4, -⟩ := r4
  obtain ⟨a5, s5, v5, -⟩ := r5
  exact ⟨Lib.tabIs_of_head g3 t3 Tryd.underlying78 Tryd.underlying67 k2 k1 h3, ⟨_, _, v5⟩, ⟨_, _, v4⟩⟩
end Go.Proofs.YtongjbgmmemajaaDoor
