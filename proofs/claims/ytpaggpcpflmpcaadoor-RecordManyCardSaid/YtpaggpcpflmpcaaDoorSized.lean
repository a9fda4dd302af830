/-
  A slice of bytes that comes in takes at most as many bytes as the form says.
-/
import Derived.Test.YtpaggpcpflmpcaaDoorBytes
import Derived.SizedLaws
namespace Go.Proofs.YtpaggpcpflmpcaaDoor
open Go.ChangeShapes Go.WideShapes Go.ChangeAt Go.RowKit

theorem bytes_u8 : Tryd.prog.bytesOf 5 = 1 := by kernel_rfl
theorem open_bytes_sized {H : Type} {enc : TypeId × Value → H} {W : World} {base : Nat} {v : Value} {d : DataW H} {ps : List MemPlace}
    (hval : Value.okWide Tryd.prog W .any base 22 v) (h : DataW.Trod enc Tryd.prog W 0 (fun _ => true) true 22 v d ps)
    (hsz : ∀ es sp, d = .slice es sp → (es.length + sp.length) * Tryd.prog.bytesOf 5 ≤ reachBytes) :
    ∃ (A : Option Addr) (c : Nat) (l : List UInt8), v = .slice A l.length c ∧ SlB W A c l ∧ l.length ≤ 140737488351232 := by
  obtain ⟨A, c, l, rfl, hr⟩ := open_bytes hval h
  refine ⟨A, c, l, rfl, hr, ?_⟩
  obtain ⟨fuel, hf⟩ := h
  rcases open_ints Tryd.underlying22 Tryd.underlying5 cells_u8 hf with ⟨hcs, hx⟩ | ⟨a, len', cap', zs, hcs, _, hl, hm, hz, hx, hcell, hwz⟩
  · simp [Value.cells] at hcs
    have := hcs.2.1
    subst this
    simp
  · simp [Value.cells] at hcs
    obtain ⟨_, h2, _⟩ := hcs
    simp only [Prod.mk.injEq] at hx
    have := hsz _ _ hx.1
    rw [bytes_u8] at this
    simp only [lits, List.length_map, List.length_take, List.length_drop, reachBytes] at this
    simp only [if_true] at hz
    omega
end Go.Proofs.YtpaggpcpflmpcaaDoor
