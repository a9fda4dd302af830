/-
  Two files are held against each other: the contracts.
-/
import Derived.Test.YtldgfepimegbmaaDoorProPrint
namespace Go.Proofs.YtldgfepimegbmaaDoor
set_option maxRecDepth 100000
open Go.RowKit

def alike {α : Type} (f : α → α → Bool) : List α → List α → Bool
  | [], [] => true
  | a :: l, b :: m => f a b && alike f l m
  | _, _ => false
theorem alike_len {α : Type} {f : α → α → Bool} : ∀ {l m : List α}, alike f l m = true → l.length = m.length
  | [], [], _ => rfl
  | a :: l, b :: m, h => by simp only [alike, Bool.and_eq_true] at h; simp [alike_len h.2]
  | [], b :: m, h => by simp [alike] at h
  | a :: l, [], h => by simp [alike] at h
theorem alike_all {α : Type} {f : α → α → Bool} : ∀ {l m : List α}, l.length = m.length → (∀ (k : Nat) (a b : α), l[k]? = some a → m[k]? = some b → f a b = true) → alike f l m = true
  | [], [], _, _ => rfl
  | a :: l, b :: m, h, k => by
    simp only [alike, Bool.and_eq_true]
    exact ⟨k 0 a b rfl rfl, alike_all (by simpa using h) (fun i x y hx hy => k (i + 1) x y (by simpa using hx) (by simpa using hy))⟩
  | [], b :: m, h, _ => by simp at h
  | a :: l, [], h, _ => by simp at h
theorem alike_get {α : Type} {f : α → α → Bool} : ∀ {l m : List α}, alike f l m = true → ∀ {k : Nat} {a b : α}, l[k]? = some a → m[k]? = some b → f a b = true
  | [], _, _, k, a, b, h, _ => by simp at h
  | x :: l, [], h, _, _, _, _, _ => by simp [alike] at h
  | x :: l, y :: m, h, 0, a, b, ha, hb => by
    simp only [alike, Bool.and_eq_true] at h
    simp at ha hb
    subst ha hb
    exact h.1
  | x :: l, y :: m, h, k + 1, a, b, ha, hb => by
    simp only [alike, Bool.and_eq_true] at h
    exact alike_get h.2 (by simpa using ha) (by simpa using hb)
theorem alike_no {α : Type} {f : α → α → Bool} {l m : List α} {k : Nat} {a b : α} (ha : l[k]? = some a) (hb : m[k]? = some b) (h : f a b = false) : alike f l m = false := by
  cases hl : alike f l m with
  | false => rfl
  | true => rw [alike_get hl ha hb] at h; cases h
theorem alike_ne {α : Type} {f : α → α → Bool} {l m : List α} (h : l.length ≠ m.length) : alike f l m = false := by
  cases hl : alike f l m with
  | false => rfl
  | true => exact absurd (alike_len hl) h
def Fd.bare (d : Fd) : Fd := { d with at_ := 0 }
def Vl.bare (d : Vl) : Vl := { d with at_ := 0 }
def sameFd (a b : Fd) : Bool := decide (a.bare = b.bare)
def sameVl (a b : Vl) : Bool := decide (a.bare = b.bare)
def sameMs (a b : Ms) : Bool := decide (a.name = b.name) && alike sameFd a.F b.F && decide (a.ones = b.ones) && decide (a.res = b.res)
def sameEn (a b : En) : Bool := decide (a.name = b.name) && alike sameVl a.V b.V
def sameFl (a b : Fl) : Bool := alike sameMs a.M b.M && alike sameEn a.E b.E

set_option maxHeartbeats 2000000 in
theorem samefd_any (a b : Fd) (w : World) : Calls Tryd.prog 33 #[FdV a, FdV b] w fun e w' => e = .returned (.bool (sameFd a b)) ∧ Below w.heap.size w w' := by
  have HXA : Hid (FdV a = .agg #[.string (txt a.type), .string (txt a.key), .bool a.rep, .int .i64 a.one, .string (txt a.name), .int .i64 a.no, .int .i64 a.at_]) := Lib.hid rfl
  have HXB : Hid (FdV b = .agg #[.string (txt b.type), .string (txt b.key), .bool b.rep, .int .i64 b.one, .string (txt b.name), .int .i64 b.no, .int .i64 b.at_]) := Lib.hid rfl
  rw [HXA.out, HXB.out]
  obtain ⟨a1, a2, a3, a4, a5, a6, a7⟩ := a
  obtain ⟨b1, b2, b3, b4, b5, b6, b7⟩ := b
  by_cases heq : Fd.bare ⟨a1, a2, a3, a4, a5, a6, a7⟩ = Fd.bare ⟨b1, b2, b3, b4, b5, b6, b7⟩
  · have HF : Hid (sameFd ⟨a1, a2, a3, a4, a5, a6, a7⟩ ⟨b1, b2, b3, b4, b5, b6, b7⟩ = true) := Lib.hid (decide_eq_true heq)
    simp only [Fd.bare, Fd.mk.injEq] at heq
    obtain ⟨rfl, rfl, rfl, rfl, rfl, rfl, _⟩ := heq
    go_enter Tryd.func33, Tryd.ntmps33
    go_wp2
    go_ret
    exact ⟨by rw [HF.out]; first | rfl | simp, below_lit (below_new _ _) _⟩
  · have HF : Hid (sameFd ⟨a1, a2, a3, a4, a5, a6, a7⟩ ⟨b1, b2, b3, b4, b5, b6, b7⟩ = false) := Lib.hid (decide_eq_false heq)
    have hd : (((txt a1).toList == (txt b1).toList) = false) ∨ (a1 = b1 ∧ ((txt a2).toList == (txt b2).toList) = false) ∨ (a1 = b1 ∧ a2 = b2 ∧ (a3 == b3) = false) ∨ (a1 = b1 ∧ a2 = b2 ∧ a3 = b3 ∧ ((a4 : Int) == b4) = false) ∨
        (a1 = b1 ∧ a2 = b2 ∧ a3 = b3 ∧ a4 = b4 ∧ ((txt a5).toList == (txt b5).toList) = false) ∨ (a1 = b1 ∧ a2 = b2 ∧ a3 = b3 ∧ a4 = b4 ∧ a5 = b5 ∧ (a6 == b6) = false) := by
      simp only [Fd.bare, Fd.mk.injEq] at heq
      by_cases e1 : a1 = b1
      · right
        by_cases e2 : a2 = b2
        · right
          by_cases e3 : a3 = b3
          · right
            by_cases e4 : a4 = b4
            · right
              by_cases e5 : a5 = b5
              · right
                refine ⟨e1, e2, e3, e4, e5, ?_⟩
                rw [beq_eq_false_iff_ne]
                intro e6
                exact heq ⟨e1, e2, e3, e4, e5, e6, trivial⟩
              · left; exact ⟨e1, e2, e3, e4, txt_ne e5⟩
            · left; exact ⟨e1, e2, e3, by rw [beq_eq_false_iff_ne]; omega⟩
          · left; exact ⟨e1, e2, by rw [beq_eq_false_iff_ne]; exact e3⟩
        · left; exact ⟨e1, txt_ne e2⟩
      · left; exact txt_ne e1
    clear heq
    rcases hd with d1 | ⟨rfl, d2⟩ | ⟨rfl, rfl, d3⟩ | ⟨rfl, rfl, rfl, d4⟩ | ⟨rfl, rfl, rfl, rfl, d5⟩ | ⟨rfl, rfl, rfl, rfl, rfl, d6⟩
    all_goals
      go_enter Tryd.func33, Tryd.ntmps33
      go_wp2
      go_ret
      exact ⟨by rw [HF.out]; first | rfl | simp, below_lit (below_new _ _) _⟩
end Go.Proofs.YtldgfepimegbmaaDoor
