/-
  Rows of the call's own that are not one block: what an append onto that block's row keeps.
-/
import Derived.Test.YtjmcpfckcajnjaaTrLaw
import Derived.Deep.AppendLies
namespace Go.Proofs.Ytjmcpfckcajnjaa.T9
set_option maxRecDepth 100000

open Go.RowKit

/-- Rows of the call's own, none of them block r. -/
def Ap (b : Nat) (r : Option Nat) (w : World) : RP := fun e size v n xs => w.ownsRow b e size v n xs ∧ (∀ k, v.ownBlock = some k → r ≠ some k) ∧ n ≤ 10000000000000
theorem own_kept {w w' : World} {b : Nat} {e : TypeId} {size : Nat} {v : Value} {n : Nat} {xs : List Value} (h : w.ownsRow b e size v n xs) (hk : ∀ k, v.ownBlock = some k → k < w.heap.size → w'.heap[k]? = w.heap[k]?) : w'.ownsRow b e size v n xs := by
  rcases h with ⟨hl, ⟨rfl, rfl⟩ | ⟨g, cap, cur, rfl, h1, h2, h3⟩⟩
  · exact ⟨hl, .inl ⟨rfl, rfl⟩⟩
  · exact ⟨hl, .inr ⟨g, cap, cur, rfl, h1, (hk g rfl (box_lt h2)).trans h2, h3⟩⟩
theorem own_blk {w : World} {b : Nat} {e : TypeId} {size : Nat} {v : Value} {n : Nat} {xs : List Value} (h : w.ownsRow b e size v n xs) (k : Nat) (hk : v.ownBlock = some k) : b ≤ k ∧ k < w.heap.size := by
  rcases h with ⟨hl, ⟨rfl, rfl⟩ | ⟨g, cap, cur, rfl, h1, h2, h3⟩⟩
  · simp [Value.ownBlock] at hk
  · simp only [Value.ownBlock, Option.some.injEq] at hk
    subst hk
    exact ⟨h1, box_lt h2⟩
theorem Ap.ow {b : Nat} {r : Option Nat} {w : World} (e : TypeId) (size : Nat) (v : Value) (n : Nat) (xs : List Value) (h : Ap b r w e size v n xs) : Ow b w e size v n xs := ⟨h.1, h.2.2⟩
theorem Ap.of {b b' : Nat} {r : Option Nat} {w : World} (hb : b ≤ b') (hr : ∀ k, r = some k → k < b') (e : TypeId) (size : Nat) (v : Value) (n : Nat) (xs : List Value) (h : Ow b' w e size v n xs) : Ap b r w e size v n xs :=
  ⟨own_less h.1 hb, fun k hk e => by have := (own_blk h.1 k hk).1; have := hr k e; omega, h.2⟩
theorem Ap.on {b : Nat} {r : Option Nat} {w w' : World} (hb : Below w.heap.size w w') (e : TypeId) (size : Nat) (v : Value) (n : Nat) (xs : List Value) (h : Ap b r w e size v n xs) : Ap b r w' e size v n xs :=
  ⟨own_kept h.1 fun k _ hk => hb.block k hk, h.2⟩
/-- Behind an append onto the row in block r, which now lies in block g. -/
theorem Ap.grown {b g : Nat} {r : Option Nat} {w w' : World} (hg : w.grownBy w' r) (hn : r = some g ∨ w.heap.size ≤ g) (e : TypeId) (size : Nat) (v : Value) (n : Nat) (xs : List Value) (h : Ap b r w e size v n xs) : Ap b (some g) w' e size v n xs := by
  refine ⟨own_kept h.1 fun k hk hlt => hg.block k hlt fun e => h.2.1 k hk e.symm, fun k hk e => ?_, h.2.2⟩
  obtain rfl := Option.some.inj e
  rcases hn with hn | hn
  · exact h.2.1 g hk hn
  · have := (own_blk h.1 g hk).2
    omega
/-- Behind a store into a box that is no row of these. -/
theorem Ap.box {b g : Nat} {r : Option Nat} {w w' : World} (hg : w.grownBy w' (some g)) (hgb : g < b) (e : TypeId) (size : Nat) (v : Value) (n : Nat) (xs : List Value) (h : Ap b r w e size v n xs) : Ap b r w' e size v n xs :=
  ⟨own_kept h.1 fun k hk hlt => hg.block k hlt fun e => by have := (own_blk h.1 k hk).1; injection e with e; omega, h.2⟩
end Go.Proofs.Ytjmcpfckcajnjaa.T9
