/-
  From what a row lists to what the contracts ask (where token's tables and strconv's errors are listed).
-/
import Derived.Test.YtceomdbahiimlaaDoorTokVars
import Derived.Test.YtceomdbahiimlaaDoorTied
import Derived.Stop.LaidErr
namespace Go.Proofs.YtceomdbahiimlaaDoor
set_option maxRecDepth 100000

open Go.RowKit

/-- From the condition of a statement's row (the variables are laid as the program's text lays them) to what the contracts ask. -/
theorem star : "*" ++ "errors.errorString" = "*errors.errorString" := by decide
theorem row_err (u : TypeId) (h : Tryd.prog.typeName? 3 u = some "*errors.errorString") : u = 116 :=
  typeName_ptr_named (nm := "errors.errorString") (by rw [star]; kernel_rfl) (by kernel_rfl) (by decide) u (by rw [star]; exact h)
theorem laid_of {W : World} (h : laidMetH Tryd.prog [("math/bits.deBruijn32tab", Rows.laid_math_bits_deBruijn32tab), ("math/bits.deBruijn64tab", Rows.laid_math_bits_deBruijn64tab), ("internal/strconv.uint64pow10", Rows.laid_internal_strconv_uint64pow10), ("strconv.ErrRange", Rows.laid_strconv_ErrRange), ("strconv.ErrSyntax", Rows.laid_strconv_ErrSyntax)] W) : Laid W := by
  rw [MakeChecks.laidMetH_plain _ _ _ (by kernel_rfl)] at h
  have h3 := h.tail.tail
  have h4 := h3.tail
  have h5 := h4.tail
  have e : (Rows.laid_internal_strconv_uint64pow10 : DataW Unit) = Lib.tabData .u64 Lib.pow10Tab := by kernel_rfl
  rw [e] at h3
  have g3 : Tryd.prog.globalNamed "internal/strconv.uint64pow10" = some 3 := by kernel_rfl
  have t3 : (Tryd.prog.globals[3]?).map (·.type) = some 120 := by kernel_rfl
  have k1 : Tryd.prog.cellsOf 120 = 20 := by kernel_rfl
  have k2 : Tryd.prog.cellsOf 93 = 1 := by kernel_rfl
  have g4 : Tryd.prog.globalNamed "strconv.ErrRange" = some 2 := by kernel_rfl
  have t4 : (Tryd.prog.globals[2]?).map (·.type) = some 89 := by kernel_rfl
  have g5 : Tryd.prog.globalNamed "strconv.ErrSyntax" = some 1 := by kernel_rfl
  have t5 : (Tryd.prog.globals[1]?).map (·.type) = some 89 := by kernel_rfl
  have k3 : Tryd.prog.cellsOf 118 = 1 := by kernel_rfl
  have k4 : Tryd.prog.cellsOf 9 = 1 := by kernel_rfl
  have r4 := laid_sentinel h4 g4 t4 Tryd.underlying89 row_err Tryd.underlying116 Tryd.underlying118 rfl rfl Tryd.underlying9 k3 k4
  have r5 := laid_sentinel h5 g5 t5 Tryd.underlying89 row_err Tryd.underlying116 Tryd.underlying118 rfl rfl Tryd.underlying9 k3 k4
  obtain ⟨a4, s4, v4, -⟩ := r4
  obtain ⟨a5, s5, v5, -⟩ := r5
  exact ⟨Lib.tabIs_of_head g3 t3 Tryd.underlying120 Tryd.underlying93 k2 k1 h3, ⟨_, _, v5⟩, ⟨_, _, v4⟩⟩
end Go.Proofs.YtceomdbahiimlaaDoor
