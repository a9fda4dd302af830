/-
  Whatever a byte begins is read: one contract for the functions that lie in the map.
-/
import Derived.Test.YtceomdbahiimlaaDoorTokMap
namespace Go.Proofs.YtceomdbahiimlaaDoor
set_option maxRecDepth 100000

open Go.RowKit

/-- How a token begins, by its first byte. -/
theorem readF_cases (c : UInt8) :
    (readF c = none → isFirst c = false ∧ isDigit c = false ∧ c ≠ 45 ∧ c ≠ 34 ∧ isSign c = false) ∧
    (∀ k, readF c = some k → (k = 47 ∧ isFirst c = true) ∨ (k = 46 ∧ (c = 45 ∨ isDigit c = true)) ∨ (k = 45 ∧ c = 34) ∨
      (k = 48 ∧ isFirst c = false ∧ isDigit c = false ∧ c ≠ 45 ∧ c ≠ 34 ∧ isSign c = true)) := by
  have h : ∀ k : Fin 256, (match readF (UInt8.ofNat k.val) with
      | none => isFirst (UInt8.ofNat k.val) = false ∧ isDigit (UInt8.ofNat k.val) = false ∧ UInt8.ofNat k.val ≠ 45 ∧ UInt8.ofNat k.val ≠ 34 ∧ isSign (UInt8.ofNat k.val) = false
      | some f => (f = 47 ∧ isFirst (UInt8.ofNat k.val) = true) ∨ (f = 46 ∧ (UInt8.ofNat k.val = 45 ∨ isDigit (UInt8.ofNat k.val) = true)) ∨ (f = 45 ∧ UInt8.ofNat k.val = 34) ∨
        (f = 48 ∧ isFirst (UInt8.ofNat k.val) = false ∧ isDigit (UInt8.ofNat k.val) = false ∧ UInt8.ofNat k.val ≠ 45 ∧ UInt8.ofNat k.val ≠ 34 ∧ isSign (UInt8.ofNat k.val) = true) : Bool) = true := by decide +kernel
  have := h ⟨c.toNat, c.toNat_lt⟩
  simp only [UInt8.ofNat_toNat] at this
  constructor
  · intro hn
    rw [hn] at this
    simpa using this
  · intro k hk
    rw [hk] at this
    simpa using this
theorem tk_other {l : List UInt8} {c : UInt8} {r : List UInt8} (hd : l = c :: r) (h1 : isFirst c = false) (h2 : isDigit c = false) (h3 : c ≠ 45) (h4 : c ≠ 34) : tk Lib.itoa l = if isSign c then some ⟨3, [c], 0, 0⟩ else none := by
  subst hd
  have e3 : (c == 45) = false := by simpa using h3
  have e4 : (c == 34) = false := by simpa using h4
  simp only [tk, h1, h2, e3, e4, Bool.or_self, Bool.false_eq_true, if_false]
theorem tk_none {l : List UInt8} {c : UInt8} {r : List UInt8} (hd : l = c :: r) (h : readF c = none) : tk Lib.itoa l = none := by
  obtain ⟨h1, h2, h3, h4, h5⟩ := (readF_cases c).1 h
  rw [tk_other hd h1 h2 h3 h4, h5]; rfl
theorem tk_string {l : List UInt8} {r : List UInt8} (hd : l = 34 :: r) : tk Lib.itoa l = strT r := by
  subst hd
  simp only [tk, show isFirst 34 = false from rfl, show (isDigit 34 || (34 : UInt8) == 45) = false from rfl, Bool.false_eq_true, if_false, beq_self_eq_true, if_true]
  rfl
theorem read_any (s : ByteArray) (hs : s.size ≤ 1000000) (p : Nat) (c : UInt8) (hc : s.data.toList[p]? = some c) (k : Nat) (hk : readF c = some k) (w : World) (L : Laid w) :
    Calls Tryd.prog k #[.string s, .int .i64 p] w fun e w' => e = .returned (SV (tk Lib.itoa (s.data.toList.drop p)) p) ∧ Below w.heap.size w w' := by
  have hp : p < s.size := by have := (List.getElem?_eq_some_iff.1 hc).1; simpa using this
  have hd := drop_cons hc
  rcases (readF_cases c).2 k hk with ⟨rfl, h⟩ | ⟨rfl, h⟩ | ⟨rfl, rfl⟩ | ⟨rfl, h1, h2, h3, h4, h5⟩
  · exact name_any s hs p c hc h w
  · exact num_any s hs p c hc h w L
  · rw [tk_string hd]
    exact str_any s hs p hp w
  · refine sign_any s hs p c hc ?_ w
    rw [tk_other hd h1 h2 h3 h4, h5]; rfl
theorem read_enters (c : UInt8) (k : Nat) (hk : readF c = some k) : ∀ args w, (callFunc k args).run Tryd.prog w = .ok (.enter k args) w := by
  rcases (readF_cases c).2 k hk with ⟨rfl, h⟩ | ⟨rfl, h⟩ | ⟨rfl, rfl⟩ | ⟨rfl, h1, h2, h3, h4, h5⟩
  · exact enters_of Tryd.func47 (by kernel_rfl) rfl
  · exact enters_of Tryd.func46 (by kernel_rfl) rfl
  · exact enters_of Tryd.func45 (by kernel_rfl) rfl
  · exact enters_of Tryd.func48 (by kernel_rfl) rfl
end Go.Proofs.YtceomdbahiimlaaDoor
