/-
  What is got of numbers that were put, and of bytes that stand elsewhere: facts on lists of bytes.
-/
import Derived.Test.YtpaggpcpflmpcaaDoorVarGets
namespace Go.Proofs.YtpaggpcpflmpcaaDoor
open Go.RowKit

theorem get_back {n : Nat} (hn : n < 18446744073709551616) (a t : List UInt8) : getR (a ++ vput n ++ t) a.length (a ++ vput n ++ t).length = (n, a.length + (vput n).length, 0) := by
  have hm : mayB (a.length : Int) ((a ++ vput n ++ t).length : Int) (a ++ vput n ++ t).length = true := by rw [mayB_true]; simp only [List.length_append]; omega
  unfold getR getS
  rw [if_pos hm]
  simp only [Int.toNat_natCast]
  have e : ((a ++ vput n ++ t).drop a.length).take ((a ++ vput n ++ t).length - a.length) = vput n ++ t := by
    rw [List.append_assoc, List.drop_left, List.length_append, Nat.add_sub_cancel_left, List.take_length]
  rw [e, vget_vput hn]
  rfl
theorem get_back_cut {n : Nat} (hn : n < 18446744073709551616) (a t : List UInt8) (u : Int) (hu : u = (a.length : Int) + ((vput n).length : Int) - 1) : getR (a ++ vput n ++ t) a.length u = (0, 0, 6) := by
  have hp := vput_pos n
  have hu2 : u = ((a.length + ((vput n).length - 1) : Nat) : Int) := by omega
  subst hu2
  have hm : mayB (a.length : Int) ((a.length + ((vput n).length - 1) : Nat) : Int) (a ++ vput n ++ t).length = true := by rw [mayB_true]; simp only [List.length_append]; omega
  unfold getR getS
  rw [if_pos hm]
  simp only [Int.toNat_natCast, Nat.add_sub_cancel_left]
  rw [List.append_assoc, List.drop_left, vget_vput_cut hn]
  rfl
theorem may_shift (a l : List UInt8) : mayB (a.length : Int) ((a ++ l).length : Int) (a ++ l).length = true := by rw [mayB_true, List.length_append]; omega
theorem may_whole (l : List UInt8) : mayB 0 (l.length : Int) l.length = true := by rw [mayB_true]; omega
theorem drop_shift (a l : List UInt8) : ((a ++ l).drop a.length).take ((a ++ l).length - a.length) = l := by
  rw [List.drop_left, List.length_append, Nat.add_sub_cancel_left, List.take_length]
theorem get_shift (a l : List UInt8) : getR (a ++ l) a.length (a ++ l).length = ((getR l 0 l.length).1, (if (getR l 0 l.length).2.2 = 0 then a.length + (getR l 0 l.length).2.1 else 0), (getR l 0 l.length).2.2) := by
  unfold getR getS
  rw [if_pos (may_shift a l), if_pos (may_whole l)]
  simp only [Int.toNat_natCast, Int.toNat_zero, drop_shift, List.drop_zero, Nat.sub_zero, List.take_length, Nat.zero_add]
  split <;> simp_all
theorem vget_bound (l : List UInt8) : (vget l).2.1 ≤ l.length := by
  have h := lead_le (l.take 10)
  rw [List.length_take] at h
  unfold vget
  split
  · simp
  · split
    · simp
    · simp only
      omega
theorem get_bound (l : List UInt8) : (getR l 0 l.length).2.1 ≤ l.length := by
  have h := vget_bound l
  unfold getR getS
  rw [if_pos (may_whole l)]
  simp only [Int.toNat_natCast, Int.toNat_zero, List.drop_zero, Nat.sub_zero, List.take_length, Nat.zero_add]
  split <;> omega
theorem get_whole (l : List UInt8) : getR l 0 l.length = ((vget l).1, (if (vget l).2.2 = 0 then (vget l).2.1 else 0), (vget l).2.2) := by
  have hm : mayB 0 (l.length : Int) l.length = true := by rw [mayB_true]; omega
  unfold getR getS
  rw [if_pos hm]
  simp
theorem get_lt (l : List UInt8) (a u : Int) : (getR l a u).1 < 18446744073709551616 := by
  unfold getR getS
  split
  · exact vget_lt _
  · simp
end Go.Proofs.YtpaggpcpflmpcaaDoor
