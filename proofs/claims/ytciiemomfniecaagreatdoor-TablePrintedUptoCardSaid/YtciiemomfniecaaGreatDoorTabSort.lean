/-
  What is told of each element of a list: the contracts of the nine instances of one function.
-/
import Derived.Test.YtciiemomfniecaaGreatDoorTokRnum
import Derived.Test.YtciiemomfniecaaGreatDoorTabOf
import Derived.Deep.RegionHeld3
import Derived.Great.BuildSlice
import Derived.Test.YtciiemomfniecaaGreatDoorTabMath
namespace Go.Proofs.YtciiemomfniecaaGreatDoor
set_option maxRecDepth 100000

open Go.RowKit

theorem strv_next {α : Type} (g : α → List UInt8) {l : List α} {k : Nat} {x : α} (h : l[k]? = some x) : strv ((l.take k).map g) ++ [.string (txt (g x))] = strv ((l.take (k + 1)).map g) := by
  rw [List.take_add_one, h]; simp [strv]
theorem intv_next {α : Type} (g : α → Int) {l : List α} {k : Nat} {x : α} (h : l[k]? = some x) : intv ((l.take k).map g) ++ [.int .i64 (g x)] = intv ((l.take (k + 1)).map g) := by
  rw [List.take_add_one, h]; simp [intv]
theorem clo_eachMs_any (m : Ms) (a1 : Option Addr) (n1 k1 : Nat) (a2 : Option Addr) (n2 k2 : Nat) (a3 : Option Addr) (n3 k3 : Nat) (w : World) : Calls Tryz.prog 65 #[.agg #[.string (txt m.name), .slice a1 n1 k1, .slice a2 n2 k2, .slice a3 n3 k3, .int .i64 m.at_]] w fun e w' => e = .returned (.string (txt m.name)) ∧ w' = w.alloc (.cells #[.string (txt m.name), .slice a1 n1 k1, .slice a2 n2 k2, .slice a3 n3 k3, .int .i64 m.at_] 51) := by
  go_enter Tryz.func65, Tryz.ntmps65
  go_wp2
  go_ret
  exact ⟨rfl, rfl⟩
set_option maxRecDepth 1000000 in
set_option maxHeartbeats 2000000 in
theorem eachMs_any (B : Nat) (v : Value) (xs : List Value) (l : List Ms) (hl : l.length ≤ 100000) (w : World) (hB : B ≤ w.heap.size) (hr : Rb B w v l.length 5 xs) (ha : MsAt B w l xs) :
    Calls Tryz.prog 64 #[v, .func (.func 65) #[] #[]] w fun e w' => ∃ v', e = .returned v' ∧ w'.ownsRow w.heap.size 9 1 v' l.length (strv (l.map (·.name))) ∧ Below w.heap.size w w' := by
  obtain ⟨A, c, rfl, hs, hA⟩ := hr
  obtain ⟨i0, hi, hz0, hz1, hz2⟩ := info_parts infoStrs
  have HS := Lib.hid hs
  have HA := Lib.hid ha
  clear hs ha
  go_enter Tryz.func64, Tryz.ntmps64
  go_wp2_with (at_make; refine wpList_make_own _ rfl _ _ 48 rfl w.heap.size 9 i0 _ 1 Tryz.underlying48 hi hz0 hz1 _ _ _ l.length rfl rfl rfl (by rw [hz2]; omega) (by unfold maxLen; omega) (Nat.le_refl _) ?_; intro w1 hown1 hg1)
  have hb1 : Below w.heap.size w w1 := (Below.refl w.heap.size w).grown hg1 (Nat.le_refl _) (fun k hk => by cases hk)
  go_loopw [5, 13] (fun o i wr => ∃ k : Nat, i = .int .i64 k ∧ k ≤ l.length ∧ wr.ownsRow w.heap.size 9 1 o k (strv ((l.take k).map (·.name))) ∧ Below w.heap.size w wr) (fun _ i _ => l.length - (intOf i).toNat)
  case atStart => exact ⟨0, rfl, by omega, hown1, hb1⟩
  case round =>
    obtain ⟨k, rfl, hk, hown, hb⟩ := hrel
    by_cases hlt : k < l.length
    · obtain ⟨m, hm⟩ : ∃ m, l[k]? = some m := ⟨_, List.getElem?_eq_getElem hlt⟩
      obtain ⟨ad, vF, vO, vR, rfl, _, hmr, c0, c1, c2, c3, c4⟩ := msr_at (HS.out.low hA (Low.below hb hB)) (HA.out.low (Low.below hb hB)) hm
      obtain ⟨_, _, rfl, -, -⟩ := hmr.f
      obtain ⟨_, _, rfl, -, -⟩ := hmr.o
      obtain ⟨_, _, rfl, -, -⟩ := hmr.r
      have HN := Lib.hid (strv_next (·.name) hm)
      clear hm
      go_wp2_with (first
        | (at_builtin; refine wpList_app1 rfl _ _ 48 rfl w.heap.size 9 i0 _ 16 Tryz.underlying48 hi hz0 hz1 hz2 rfl _ k _ rfl (((hown.alloc _).alloc _).alloc _) _ 1 (.string (txt m.name)) rfl (World.cell?_alloc_at _ _ _ _ (by simp)) rfl (by unfold maxLen; omega) (by omega) (by have := hb.size; simp; omega) ?_; intro v3 w3 hown3 hg3)
        | (go_at_call 65; refine (clo_eachMs_any m _ _ _ _ _ _ _ _ _ _).mono ?_; rintro e w2 ⟨rfl, rfl⟩))
      rw [HN.out] at hown3
      exact ⟨⟨k + 1, by go_num, by omega, hown3, (below_lit (below_lit (below_lit hb _) _) _).grown hg3 (by have := hb.size; simp; omega) (own_ge hown)⟩, by simp [intOf]; omega⟩
    · obtain rfl : k = l.length := by omega
      rw [List.take_length] at hown
      go_wp2
      go_ret
      exact ⟨_, rfl, hown, hb⟩
theorem clo_eachEn_any (m : En) (a1 : Option Addr) (n1 k1 : Nat) (w : World) : Calls Tryz.prog 67 #[.agg #[.string (txt m.name), .slice a1 n1 k1, .int .i64 m.at_]] w fun e w' => e = .returned (.string (txt m.name)) ∧ w' = w.alloc (.cells #[.string (txt m.name), .slice a1 n1 k1, .int .i64 m.at_] 65) := by
  go_enter Tryz.func67, Tryz.ntmps67
  go_wp2
  go_ret
  exact ⟨rfl, rfl⟩
set_option maxRecDepth 1000000 in
set_option maxHeartbeats 2000000 in
theorem eachEn_any (B : Nat) (v : Value) (xs : List Value) (l : List En) (hl : l.length ≤ 100000) (w : World) (hB : B ≤ w.heap.size) (hr : Rb B w v l.length 3 xs) (ha : EnAt B w l xs) :
    Calls Tryz.prog 66 #[v, .func (.func 67) #[] #[]] w fun e w' => ∃ v', e = .returned v' ∧ w'.ownsRow w.heap.size 9 1 v' l.length (strv (l.map (·.name))) ∧ Below w.heap.size w w' := by
  obtain ⟨A, c, rfl, hs, hA⟩ := hr
  obtain ⟨i0, hi, hz0, hz1, hz2⟩ := info_parts infoStrs
  have HS := Lib.hid hs
  have HA := Lib.hid ha
  clear hs ha
  go_enter Tryz.func66, Tryz.ntmps66
  go_wp2_with (at_make; refine wpList_make_own _ rfl _ _ 48 rfl w.heap.size 9 i0 _ 1 Tryz.underlying48 hi hz0 hz1 _ _ _ l.length rfl rfl rfl (by rw [hz2]; omega) (by unfold maxLen; omega) (Nat.le_refl _) ?_; intro w1 hown1 hg1)
  have hb1 : Below w.heap.size w w1 := (Below.refl w.heap.size w).grown hg1 (Nat.le_refl _) (fun k hk => by cases hk)
  go_loopw [5, 13] (fun o i wr => ∃ k : Nat, i = .int .i64 k ∧ k ≤ l.length ∧ wr.ownsRow w.heap.size 9 1 o k (strv ((l.take k).map (·.name))) ∧ Below w.heap.size w wr) (fun _ i _ => l.length - (intOf i).toNat)
  case atStart => exact ⟨0, rfl, by omega, hown1, hb1⟩
  case round =>
    obtain ⟨k, rfl, hk, hown, hb⟩ := hrel
    by_cases hlt : k < l.length
    · obtain ⟨m, hm⟩ : ∃ m, l[k]? = some m := ⟨_, List.getElem?_eq_getElem hlt⟩
      obtain ⟨ad, vV, rfl, _, hmr, c0, c1, c2⟩ := enr_at (HS.out.low hA (Low.below hb hB)) (HA.out.low (Low.below hb hB)) hm
      obtain ⟨_, _, rfl, -, -⟩ := hmr
      have HN := Lib.hid (strv_next (·.name) hm)
      clear hm
      go_wp2_with (first
        | (at_builtin; refine wpList_app1 rfl _ _ 48 rfl w.heap.size 9 i0 _ 16 Tryz.underlying48 hi hz0 hz1 hz2 rfl _ k _ rfl (((hown.alloc _).alloc _).alloc _) _ 1 (.string (txt m.name)) rfl (World.cell?_alloc_at _ _ _ _ (by simp)) rfl (by unfold maxLen; omega) (by omega) (by have := hb.size; simp; omega) ?_; intro v3 w3 hown3 hg3)
        | (go_at_call 67; refine (clo_eachEn_any m _ _ _ _).mono ?_; rintro e w2 ⟨rfl, rfl⟩))
      rw [HN.out] at hown3
      exact ⟨⟨k + 1, by go_num, by omega, hown3, (below_lit (below_lit (below_lit hb _) _) _).grown hg3 (by have := hb.size; simp; omega) (own_ge hown)⟩, by simp [intOf]; omega⟩
    · obtain rfl : k = l.length := by omega
      rw [List.take_length] at hown
      go_wp2
      go_ret
      exact ⟨_, rfl, hown, hb⟩
theorem clo_eachMd_any (m : Md) (a1 : Option Addr) (n1 k1 : Nat) (w : World) : Calls Tryz.prog 46 #[.agg #[.string (txt m.name), .slice a1 n1 k1]] w fun e w' => e = .returned (.string (txt m.name)) ∧ w' = w.alloc (.cells #[.string (txt m.name), .slice a1 n1 k1] 56) := by
  go_enter Tryz.func46, Tryz.ntmps46
  go_wp2
  go_ret
  exact ⟨rfl, rfl⟩
set_option maxRecDepth 1000000 in
set_option maxHeartbeats 2000000 in
theorem eachMd_any (B : Nat) (v : Value) (xs : List Value) (l : List Md) (hl : l.length ≤ 100000) (w : World) (hB : B ≤ w.heap.size) (hr : Rb B w v l.length 2 xs) (ha : MdsAt B w l xs) :
    Calls Tryz.prog 45 #[v, .func (.func 46) #[] #[]] w fun e w' => ∃ v', e = .returned v' ∧ w'.ownsRow w.heap.size 9 1 v' l.length (strv (l.map (·.name))) ∧ Below w.heap.size w w' := by
  obtain ⟨A, c, rfl, hs, hA⟩ := hr
  obtain ⟨i0, hi, hz0, hz1, hz2⟩ := info_parts infoStrs
  have HS := Lib.hid hs
  have HA := Lib.hid ha
  clear hs ha
  go_enter Tryz.func45, Tryz.ntmps45
  go_wp2_with (at_make; refine wpList_make_own _ rfl _ _ 48 rfl w.heap.size 9 i0 _ 1 Tryz.underlying48 hi hz0 hz1 _ _ _ l.length rfl rfl rfl (by rw [hz2]; omega) (by unfold maxLen; omega) (Nat.le_refl _) ?_; intro w1 hown1 hg1)
  have hb1 : Below w.heap.size w w1 := (Below.refl w.heap.size w).grown hg1 (Nat.le_refl _) (fun k hk => by cases hk)
  go_loopw [5, 13] (fun o i wr => ∃ k : Nat, i = .int .i64 k ∧ k ≤ l.length ∧ wr.ownsRow w.heap.size 9 1 o k (strv ((l.take k).map (·.name))) ∧ Below w.heap.size w wr) (fun _ i _ => l.length - (intOf i).toNat)
  case atStart => exact ⟨0, rfl, by omega, hown1, hb1⟩
  case round =>
    obtain ⟨k, rfl, hk, hown, hb⟩ := hrel
    by_cases hlt : k < l.length
    · obtain ⟨m, hm⟩ : ∃ m, l[k]? = some m := ⟨_, List.getElem?_eq_getElem hlt⟩
      obtain ⟨ad, vF, rfl, _, hmr, c0, c1⟩ := mdr_at (HS.out.low hA (Low.below hb hB)) (HA.out.low (Low.below hb hB)) hm
      obtain ⟨_, _, rfl, -, -⟩ := hmr
      have HN := Lib.hid (strv_next (·.name) hm)
      clear hm
      go_wp2_with (first
        | (at_builtin; refine wpList_app1 rfl _ _ 48 rfl w.heap.size 9 i0 _ 16 Tryz.underlying48 hi hz0 hz1 hz2 rfl _ k _ rfl (((hown.alloc _).alloc _).alloc _) _ 1 (.string (txt m.name)) rfl (World.cell?_alloc_at _ _ _ _ (by simp)) rfl (by unfold maxLen; omega) (by omega) (by have := hb.size; simp; omega) ?_; intro v3 w3 hown3 hg3)
        | (go_at_call 46; refine (clo_eachMd_any m _ _ _ _).mono ?_; rintro e w2 ⟨rfl, rfl⟩))
      rw [HN.out] at hown3
      exact ⟨⟨k + 1, by go_num, by omega, hown3, (below_lit (below_lit (below_lit hb _) _) _).grown hg3 (by have := hb.size; simp; omega) (own_ge hown)⟩, by simp [intOf]; omega⟩
    · obtain rfl : k = l.length := by omega
      rw [List.take_length] at hown
      go_wp2
      go_ret
      exact ⟨_, rfl, hown, hb⟩
theorem clo_eachEd_any (m : Ed) (a1 : Option Addr) (n1 k1 : Nat) (a2 : Option Addr) (n2 k2 : Nat) (w : World) : Calls Tryz.prog 48 #[.agg #[.string (txt m.name), .slice a1 n1 k1, .slice a2 n2 k2]] w fun e w' => e = .returned (.string (txt m.name)) ∧ w' = w.alloc (.cells #[.string (txt m.name), .slice a1 n1 k1, .slice a2 n2 k2] 68) := by
  go_enter Tryz.func48, Tryz.ntmps48
  go_wp2
  go_ret
  exact ⟨rfl, rfl⟩
set_option maxRecDepth 1000000 in
set_option maxHeartbeats 2000000 in
theorem eachEd_any (B : Nat) (v : Value) (xs : List Value) (l : List Ed) (hl : l.length ≤ 100000) (w : World) (hB : B ≤ w.heap.size) (hr : Rb B w v l.length 3 xs) (ha : EdsAt B w l xs) :
    Calls Tryz.prog 47 #[v, .func (.func 48) #[] #[]] w fun e w' => ∃ v', e = .returned v' ∧ w'.ownsRow w.heap.size 9 1 v' l.length (strv (l.map (·.name))) ∧ Below w.heap.size w w' := by
  obtain ⟨A, c, rfl, hs, hA⟩ := hr
  obtain ⟨i0, hi, hz0, hz1, hz2⟩ := info_parts infoStrs
  have HS := Lib.hid hs
  have HA := Lib.hid ha
  clear hs ha
  go_enter Tryz.func47, Tryz.ntmps47
  go_wp2_with (at_make; refine wpList_make_own _ rfl _ _ 48 rfl w.heap.size 9 i0 _ 1 Tryz.underlying48 hi hz0 hz1 _ _ _ l.length rfl rfl rfl (by rw [hz2]; omega) (by unfold maxLen; omega) (Nat.le_refl _) ?_; intro w1 hown1 hg1)
  have hb1 : Below w.heap.size w w1 := (Below.refl w.heap.size w).grown hg1 (Nat.le_refl _) (fun k hk => by cases hk)
  go_loopw [5, 13] (fun o i wr => ∃ k : Nat, i = .int .i64 k ∧ k ≤ l.length ∧ wr.ownsRow w.heap.size 9 1 o k (strv ((l.take k).map (·.name))) ∧ Below w.heap.size w wr) (fun _ i _ => l.length - (intOf i).toNat)
  case atStart => exact ⟨0, rfl, by omega, hown1, hb1⟩
  case round =>
    obtain ⟨k, rfl, hk, hown, hb⟩ := hrel
    by_cases hlt : k < l.length
    · obtain ⟨m, hm⟩ : ∃ m, l[k]? = some m := ⟨_, List.getElem?_eq_getElem hlt⟩
      obtain ⟨ad, vV, vN, rfl, _, hmr, hms, c0, c1, c2⟩ := edr_at (HS.out.low hA (Low.below hb hB)) (HA.out.low (Low.below hb hB)) hm
      obtain ⟨_, _, rfl, -, -⟩ := hmr
      obtain ⟨_, _, rfl, -, -⟩ := hms
      have HN := Lib.hid (strv_next (·.name) hm)
      clear hm
      go_wp2_with (first
        | (at_builtin; refine wpList_app1 rfl _ _ 48 rfl w.heap.size 9 i0 _ 16 Tryz.underlying48 hi hz0 hz1 hz2 rfl _ k _ rfl (((hown.alloc _).alloc _).alloc _) _ 1 (.string (txt m.name)) rfl (World.cell?_alloc_at _ _ _ _ (by simp)) rfl (by unfold maxLen; omega) (by omega) (by have := hb.size; simp; omega) ?_; intro v3 w3 hown3 hg3)
        | (go_at_call 48; refine (clo_eachEd_any m _ _ _ _ _ _ _).mono ?_; rintro e w2 ⟨rfl, rfl⟩))
      rw [HN.out] at hown3
      exact ⟨⟨k + 1, by go_num, by omega, hown3, (below_lit (below_lit (below_lit hb _) _) _).grown hg3 (by have := hb.size; simp; omega) (own_ge hown)⟩, by simp [intOf]; omega⟩
    · obtain rfl : k = l.length := by omega
      rw [List.take_length] at hown
      go_wp2
      go_ret
      exact ⟨_, rfl, hown, hb⟩
theorem clo_eachFdN_any (m : Fd) (w : World) : Calls Tryz.prog 71 #[.agg #[.string (txt m.type), .string (txt m.key), .bool m.rep, .int .i64 m.one, .string (txt m.name), .int .i64 m.no, .int .i64 m.at_]] w fun e w' => e = .returned (.string (txt m.name)) ∧ w' = w.alloc (.cells #[.string (txt m.type), .string (txt m.key), .bool m.rep, .int .i64 m.one, .string (txt m.name), .int .i64 m.no, .int .i64 m.at_] 53) := by
  go_enter Tryz.func71, Tryz.ntmps71
  go_wp2
  go_ret
  exact ⟨rfl, rfl⟩
set_option maxRecDepth 1000000 in
set_option maxHeartbeats 2000000 in
theorem eachFdN_any (B : Nat) (v : Value) (l : List Fd) (hl : l.length ≤ 100000) (w : World) (hB : B ≤ w.heap.size) (hr : Rb B w v l.length 7 (fdv l)) :
    Calls Tryz.prog 70 #[v, .func (.func 71) #[] #[]] w fun e w' => ∃ v', e = .returned v' ∧ w'.ownsRow w.heap.size 9 1 v' l.length (strv (l.map (·.name))) ∧ Below w.heap.size w w' := by
  obtain ⟨A, c, rfl, hs, hA⟩ := hr
  obtain ⟨i0, hi, hz0, hz1, hz2⟩ := info_parts infoStrs
  have HS := Lib.hid hs
  clear hs
  go_enter Tryz.func70, Tryz.ntmps70
  go_wp2_with (at_make; refine wpList_make_own _ rfl _ _ 48 rfl w.heap.size 9 i0 _ 1 Tryz.underlying48 hi hz0 hz1 _ _ _ l.length rfl rfl rfl (by rw [hz2]; omega) (by unfold maxLen; omega) (Nat.le_refl _) ?_; intro w1 hown1 hg1)
  have hb1 : Below w.heap.size w w1 := (Below.refl w.heap.size w).grown hg1 (Nat.le_refl _) (fun k hk => by cases hk)
  go_loopw [5, 13] (fun o i wr => ∃ k : Nat, i = .int .i64 k ∧ k ≤ l.length ∧ wr.ownsRow w.heap.size 9 1 o k (strv ((l.take k).map (·.name))) ∧ Below w.heap.size w wr) (fun _ i _ => l.length - (intOf i).toNat)
  case atStart => exact ⟨0, rfl, by omega, hown1, hb1⟩
  case round =>
    obtain ⟨k, rfl, hk, hown, hb⟩ := hrel
    by_cases hlt : k < l.length
    · obtain ⟨m, hm⟩ : ∃ m, l[k]? = some m := ⟨_, List.getElem?_eq_getElem hlt⟩
      obtain ⟨ad, rfl, _, c0, c1, c2, c3, c4, c5, c6⟩ := fdr_at (HS.out.low hA (Low.below hb hB)) hm
      have HN := Lib.hid (strv_next (·.name) hm)
      clear hm
      go_wp2_with (first
        | (at_builtin; refine wpList_app1 rfl _ _ 48 rfl w.heap.size 9 i0 _ 16 Tryz.underlying48 hi hz0 hz1 hz2 rfl _ k _ rfl (((hown.alloc _).alloc _).alloc _) _ 1 (.string (txt m.name)) rfl (World.cell?_alloc_at _ _ _ _ (by simp)) rfl (by unfold maxLen; omega) (by omega) (by have := hb.size; simp; omega) ?_; intro v3 w3 hown3 hg3)
        | (go_at_call 71; refine (clo_eachFdN_any m _).mono ?_; rintro e w2 ⟨rfl, rfl⟩))
      rw [HN.out] at hown3
      exact ⟨⟨k + 1, by go_num, by omega, hown3, (below_lit (below_lit (below_lit hb _) _) _).grown hg3 (by have := hb.size; simp; omega) (own_ge hown)⟩, by simp [intOf]; omega⟩
    · obtain rfl : k = l.length := by omega
      rw [List.take_length] at hown
      go_wp2
      go_ret
      exact ⟨_, rfl, hown, hb⟩
theorem clo_eachFdI_any (m : Fd) (w : World) : Calls Tryz.prog 75 #[.agg #[.string (txt m.type), .string (txt m.key), .bool m.rep, .int .i64 m.one, .string (txt m.name), .int .i64 m.no, .int .i64 m.at_]] w fun e w' => e = .returned (.int .i64 (m.no)) ∧ w' = w.alloc (.cells #[.string (txt m.type), .string (txt m.key), .bool m.rep, .int .i64 m.one, .string (txt m.name), .int .i64 m.no, .int .i64 m.at_] 53) := by
  go_enter Tryz.func75, Tryz.ntmps75
  go_wp2
  go_ret
  exact ⟨rfl, rfl⟩
set_option maxRecDepth 1000000 in
set_option maxHeartbeats 2000000 in
theorem eachFdI_any (B : Nat) (v : Value) (l : List Fd) (hl : l.length ≤ 100000) (w : World) (hB : B ≤ w.heap.size) (hr : Rb B w v l.length 7 (fdv l)) :
    Calls Tryz.prog 74 #[v, .func (.func 75) #[] #[]] w fun e w' => ∃ v', e = .returned v' ∧ w'.ownsRow w.heap.size 2 1 v' l.length (intv (l.map (·.no))) ∧ Below w.heap.size w w' := by
  obtain ⟨A, c, rfl, hs, hA⟩ := hr
  obtain ⟨i0, hi, hz0, hz1, hz2⟩ := info_parts infoI64s
  have HS := Lib.hid hs
  clear hs
  go_enter Tryz.func74, Tryz.ntmps74
  go_wp2_with (at_make; refine wpList_make_own _ rfl _ _ 49 rfl w.heap.size 2 i0 _ 1 Tryz.underlying49 hi hz0 hz1 _ _ _ l.length rfl rfl rfl (by rw [hz2]; omega) (by unfold maxLen; omega) (Nat.le_refl _) ?_; intro w1 hown1 hg1)
  have hb1 : Below w.heap.size w w1 := (Below.refl w.heap.size w).grown hg1 (Nat.le_refl _) (fun k hk => by cases hk)
  go_loopw [5, 13] (fun o i wr => ∃ k : Nat, i = .int .i64 k ∧ k ≤ l.length ∧ wr.ownsRow w.heap.size 2 1 o k (intv ((l.take k).map (·.no))) ∧ Below w.heap.size w wr) (fun _ i _ => l.length - (intOf i).toNat)
  case atStart => exact ⟨0, rfl, by omega, hown1, hb1⟩
  case round =>
    obtain ⟨k, rfl, hk, hown, hb⟩ := hrel
    by_cases hlt : k < l.length
    · obtain ⟨m, hm⟩ : ∃ m, l[k]? = some m := ⟨_, List.getElem?_eq_getElem hlt⟩
      obtain ⟨ad, rfl, _, c0, c1, c2, c3, c4, c5, c6⟩ := fdr_at (HS.out.low hA (Low.below hb hB)) hm
      have HN := Lib.hid (intv_next (·.no) hm)
      clear hm
      go_wp2_with (first
        | (at_builtin; refine wpList_app1 rfl _ _ 49 rfl w.heap.size 2 i0 _ 8 Tryz.underlying49 hi hz0 hz1 hz2 rfl _ k _ rfl (((hown.alloc _).alloc _).alloc _) _ 1 (.int .i64 (m.no)) rfl (World.cell?_alloc_at _ _ _ _ (by simp)) rfl (by unfold maxLen; omega) (by omega) (by have := hb.size; simp; omega) ?_; intro v3 w3 hown3 hg3)
        | (go_at_call 75; refine (clo_eachFdI_any m _).mono ?_; rintro e w2 ⟨rfl, rfl⟩))
      rw [HN.out] at hown3
      exact ⟨⟨k + 1, by go_num, by omega, hown3, (below_lit (below_lit (below_lit hb _) _) _).grown hg3 (by have := hb.size; simp; omega) (own_ge hown)⟩, by simp [intOf]; omega⟩
    · obtain rfl : k = l.length := by omega
      rw [List.take_length] at hown
      go_wp2
      go_ret
      exact ⟨_, rfl, hown, hb⟩
theorem clo_eachVlN_any (m : Vl) (w : World) : Calls Tryz.prog 85 #[.agg #[.string (txt m.name), .int .i64 m.n, .int .i64 m.at_]] w fun e w' => e = .returned (.string (txt m.name)) ∧ w' = w.alloc (.cells #[.string (txt m.name), .int .i64 m.n, .int .i64 m.at_] 83) := by
  go_enter Tryz.func85, Tryz.ntmps85
  go_wp2
  go_ret
  exact ⟨rfl, rfl⟩
set_option maxRecDepth 1000000 in
set_option maxHeartbeats 2000000 in
theorem eachVlN_any (B : Nat) (v : Value) (l : List Vl) (hl : l.length ≤ 100000) (w : World) (hB : B ≤ w.heap.size) (hr : Rb B w v l.length 3 (vlv l)) :
    Calls Tryz.prog 84 #[v, .func (.func 85) #[] #[]] w fun e w' => ∃ v', e = .returned v' ∧ w'.ownsRow w.heap.size 9 1 v' l.length (strv (l.map (·.name))) ∧ Below w.heap.size w w' := by
  obtain ⟨A, c, rfl, hs, hA⟩ := hr
  obtain ⟨i0, hi, hz0, hz1, hz2⟩ := info_parts infoStrs
  have HS := Lib.hid hs
  clear hs
  go_enter Tryz.func84, Tryz.ntmps84
  go_wp2_with (at_make; refine wpList_make_own _ rfl _ _ 48 rfl w.heap.size 9 i0 _ 1 Tryz.underlying48 hi hz0 hz1 _ _ _ l.length rfl rfl rfl (by rw [hz2]; omega) (by unfold maxLen; omega) (Nat.le_refl _) ?_; intro w1 hown1 hg1)
  have hb1 : Below w.heap.size w w1 := (Below.refl w.heap.size w).grown hg1 (Nat.le_refl _) (fun k hk => by cases hk)
  go_loopw [5, 13] (fun o i wr => ∃ k : Nat, i = .int .i64 k ∧ k ≤ l.length ∧ wr.ownsRow w.heap.size 9 1 o k (strv ((l.take k).map (·.name))) ∧ Below w.heap.size w wr) (fun _ i _ => l.length - (intOf i).toNat)
  case atStart => exact ⟨0, rfl, by omega, hown1, hb1⟩
  case round =>
    obtain ⟨k, rfl, hk, hown, hb⟩ := hrel
    by_cases hlt : k < l.length
    · obtain ⟨m, hm⟩ : ∃ m, l[k]? = some m := ⟨_, List.getElem?_eq_getElem hlt⟩
      obtain ⟨ad, rfl, _, c0, c1, c2⟩ := vlr_at (HS.out.low hA (Low.below hb hB)) hm
      have HN := Lib.hid (strv_next (·.name) hm)
      clear hm
      go_wp2_with (first
        | (at_builtin; refine wpList_app1 rfl _ _ 48 rfl w.heap.size 9 i0 _ 16 Tryz.underlying48 hi hz0 hz1 hz2 rfl _ k _ rfl (((hown.alloc _).alloc _).alloc _) _ 1 (.string (txt m.name)) rfl (World.cell?_alloc_at _ _ _ _ (by simp)) rfl (by unfold maxLen; omega) (by omega) (by have := hb.size; simp; omega) ?_; intro v3 w3 hown3 hg3)
        | (go_at_call 85; refine (clo_eachVlN_any m _).mono ?_; rintro e w2 ⟨rfl, rfl⟩))
      rw [HN.out] at hown3
      exact ⟨⟨k + 1, by go_num, by omega, hown3, (below_lit (below_lit (below_lit hb _) _) _).grown hg3 (by have := hb.size; simp; omega) (own_ge hown)⟩, by simp [intOf]; omega⟩
    · obtain rfl : k = l.length := by omega
      rw [List.take_length] at hown
      go_wp2
      go_ret
      exact ⟨_, rfl, hown, hb⟩
theorem clo_eachVlI_any (m : Vl) (w : World) : Calls Tryz.prog 87 #[.agg #[.string (txt m.name), .int .i64 m.n, .int .i64 m.at_]] w fun e w' => e = .returned (.int .i64 (m.n)) ∧ w' = w.alloc (.cells #[.string (txt m.name), .int .i64 m.n, .int .i64 m.at_] 83) := by
  go_enter Tryz.func87, Tryz.ntmps87
  go_wp2
  go_ret
  exact ⟨rfl, rfl⟩
set_option maxRecDepth 1000000 in
set_option maxHeartbeats 2000000 in
theorem eachVlI_any (B : Nat) (v : Value) (l : List Vl) (hl : l.length ≤ 100000) (w : World) (hB : B ≤ w.heap.size) (hr : Rb B w v l.length 3 (vlv l)) :
    Calls Tryz.prog 86 #[v, .func (.func 87) #[] #[]] w fun e w' => ∃ v', e = .returned v' ∧ w'.ownsRow w.heap.size 2 1 v' l.length (intv (l.map (·.n))) ∧ Below w.heap.size w w' := by
  obtain ⟨A, c, rfl, hs, hA⟩ := hr
  obtain ⟨i0, hi, hz0, hz1, hz2⟩ := info_parts infoI64s
  have HS := Lib.hid hs
  clear hs
  go_enter Tryz.func86, Tryz.ntmps86
  go_wp2_with (at_make; refine wpList_make_own _ rfl _ _ 49 rfl w.heap.size 2 i0 _ 1 Tryz.underlying49 hi hz0 hz1 _ _ _ l.length rfl rfl rfl (by rw [hz2]; omega) (by unfold maxLen; omega) (Nat.le_refl _) ?_; intro w1 hown1 hg1)
  have hb1 : Below w.heap.size w w1 := (Below.refl w.heap.size w).grown hg1 (Nat.le_refl _) (fun k hk => by cases hk)
  go_loopw [5, 13] (fun o i wr => ∃ k : Nat, i = .int .i64 k ∧ k ≤ l.length ∧ wr.ownsRow w.heap.size 2 1 o k (intv ((l.take k).map (·.n))) ∧ Below w.heap.size w wr) (fun _ i _ => l.length - (intOf i).toNat)
  case atStart => exact ⟨0, rfl, by omega, hown1, hb1⟩
  case round =>
    obtain ⟨k, rfl, hk, hown, hb⟩ := hrel
    by_cases hlt : k < l.length
    · obtain ⟨m, hm⟩ : ∃ m, l[k]? = some m := ⟨_, List.getElem?_eq_getElem hlt⟩
      obtain ⟨ad, rfl, _, c0, c1, c2⟩ := vlr_at (HS.out.low hA (Low.below hb hB)) hm
      have HN := Lib.hid (intv_next (·.n) hm)
      clear hm
      go_wp2_with (first
        | (at_builtin; refine wpList_app1 rfl _ _ 49 rfl w.heap.size 2 i0 _ 8 Tryz.underlying49 hi hz0 hz1 hz2 rfl _ k _ rfl (((hown.alloc _).alloc _).alloc _) _ 1 (.int .i64 (m.n)) rfl (World.cell?_alloc_at _ _ _ _ (by simp)) rfl (by unfold maxLen; omega) (by omega) (by have := hb.size; simp; omega) ?_; intro v3 w3 hown3 hg3)
        | (go_at_call 87; refine (clo_eachVlI_any m _).mono ?_; rintro e w2 ⟨rfl, rfl⟩))
      rw [HN.out] at hown3
      exact ⟨⟨k + 1, by go_num, by omega, hown3, (below_lit (below_lit (below_lit hb _) _) _).grown hg3 (by have := hb.size; simp; omega) (own_ge hown)⟩, by simp [intOf]; omega⟩
    · obtain rfl : k = l.length := by omega
      rw [List.take_length] at hown
      go_wp2
      go_ret
      exact ⟨_, rfl, hown, hb⟩
theorem clo_eachDf_any (m : Df) (w : World) : Calls Tryz.prog 101 #[.agg #[.int .i64 m.no, .string (txt m.name), .int .i64 m.kind, .int .i64 m.ref, .bool m.rep, .int .i64 m.key, .int .i64 m.one]] w fun e w' => e = .returned (.string (txt m.name)) ∧ w' = w.alloc (.cells #[.int .i64 m.no, .string (txt m.name), .int .i64 m.kind, .int .i64 m.ref, .bool m.rep, .int .i64 m.key, .int .i64 m.one] 39) := by
  go_enter Tryz.func101, Tryz.ntmps101
  go_wp2
  go_ret
  exact ⟨rfl, rfl⟩
set_option maxRecDepth 1000000 in
set_option maxHeartbeats 2000000 in
theorem eachDf_any (B : Nat) (v : Value) (l : List Df) (hl : l.length ≤ 100000) (w : World) (hB : B ≤ w.heap.size) (hr : Rb B w v l.length 7 (dfv l)) :
    Calls Tryz.prog 100 #[v, .func (.func 101) #[] #[]] w fun e w' => ∃ v', e = .returned v' ∧ w'.ownsRow w.heap.size 9 1 v' l.length (strv (l.map (·.name))) ∧ Below w.heap.size w w' := by
  obtain ⟨A, c, rfl, hs, hA⟩ := hr
  obtain ⟨i0, hi, hz0, hz1, hz2⟩ := info_parts infoStrs
  have HS := Lib.hid hs
  clear hs
  go_enter Tryz.func100, Tryz.ntmps100
  go_wp2_with (at_make; refine wpList_make_own _ rfl _ _ 48 rfl w.heap.size 9 i0 _ 1 Tryz.underlying48 hi hz0 hz1 _ _ _ l.length rfl rfl rfl (by rw [hz2]; omega) (by unfold maxLen; omega) (Nat.le_refl _) ?_; intro w1 hown1 hg1)
  have hb1 : Below w.heap.size w w1 := (Below.refl w.heap.size w).grown hg1 (Nat.le_refl _) (fun k hk => by cases hk)
  go_loopw [5, 13] (fun o i wr => ∃ k : Nat, i = .int .i64 k ∧ k ≤ l.length ∧ wr.ownsRow w.heap.size 9 1 o k (strv ((l.take k).map (·.name))) ∧ Below w.heap.size w wr) (fun _ i _ => l.length - (intOf i).toNat)
  case atStart => exact ⟨0, rfl, by omega, hown1, hb1⟩
  case round =>
    obtain ⟨k, rfl, hk, hown, hb⟩ := hrel
    by_cases hlt : k < l.length
    · obtain ⟨m, hm⟩ : ∃ m, l[k]? = some m := ⟨_, List.getElem?_eq_getElem hlt⟩
      obtain ⟨ad, rfl, _, c0, c1, c2, c3, c4, c5, c6⟩ := dfr_at (HS.out.low hA (Low.below hb hB)) hm
      have HN := Lib.hid (strv_next (·.name) hm)
      clear hm
      go_wp2_with (first
        | (at_builtin; refine wpList_app1 rfl _ _ 48 rfl w.heap.size 9 i0 _ 16 Tryz.underlying48 hi hz0 hz1 hz2 rfl _ k _ rfl (((hown.alloc _).alloc _).alloc _) _ 1 (.string (txt m.name)) rfl (World.cell?_alloc_at _ _ _ _ (by simp)) rfl (by unfold maxLen; omega) (by omega) (by have := hb.size; simp; omega) ?_; intro v3 w3 hown3 hg3)
        | (go_at_call 101; refine (clo_eachDf_any m _).mono ?_; rintro e w2 ⟨rfl, rfl⟩))
      rw [HN.out] at hown3
      exact ⟨⟨k + 1, by go_num, by omega, hown3, (below_lit (below_lit (below_lit hb _) _) _).grown hg3 (by have := hb.size; simp; omega) (own_ge hown)⟩, by simp [intOf]; omega⟩
    · obtain rfl : k = l.length := by omega
      rw [List.take_length] at hown
      go_wp2
      go_ret
      exact ⟨_, rfl, hown, hb⟩
end Go.Proofs.YtciiemomfniecaaGreatDoor
/-
  What is wrong with a message, or an enum, ahead of all that stands in it: the contract.
-/
namespace Go.Proofs.YtciiemomfniecaaGreatDoor
set_option maxRecDepth 100000

open Go.RowKit Go.Maps

theorem box_kept {w w' : World} {g b : Nat} {o : Obj} (h : w.heap[g]? = some o) (hg : w.grownBy w' (some b)) (hne : g ≠ b) : w'.heap[g]? = some o :=
  (hg.block g (Array.getElem?_eq_some_iff.1 h).1 (fun e => hne (by injection e))).trans h
theorem box2 {w : World} {g : Nat} {a b : Value} {t : TypeId} (h : w.heap[g]? = some (.cells #[a, b] t (0, 0))) : w.heap[g]? = some (.cells #[a, b] t (0, 0)) ∧ w.cell? ⟨g, 0, none⟩ = some a ∧ w.cell? ⟨g, 1, none⟩ = some b :=
  ⟨h, by rw [heap_cell h 0]; rfl, by rw [heap_cell h 1]; rfl⟩
theorem box2_below {w w' : World} {g : Nat} {a b : Value} {t : TypeId} (hb : Below w.heap.size w w') (h : w.heap[g]? = some (.cells #[a, b] t (0, 0)) ∧ w.cell? ⟨g, 0, none⟩ = some a ∧ w.cell? ⟨g, 1, none⟩ = some b) : w'.heap[g]? = some (.cells #[a, b] t (0, 0)) ∧ w'.cell? ⟨g, 0, none⟩ = some a ∧ w'.cell? ⟨g, 1, none⟩ = some b :=
  box2 ((hb.block g (Array.getElem?_eq_some_iff.1 h.1).1).trans h.1)
theorem hd_ms {f : Fl} {k : Nat} {m : Ms} (hm : f.M[k]? = some m) : (namesF f)[k]? = some m.name ∧ hdAt f k = m.at_ ∧ hdLong f k = (decide (30 < m.F.length) || decide (30 < m.ones.length)) := by
  have hlt := (List.getElem?_eq_some_iff.1 hm).1
  refine ⟨?_, ?_, ?_⟩
  · unfold namesF
    rw [List.getElem?_append_left (by simpa using hlt), List.getElem?_map, hm]; rfl
  · unfold hdAt; rw [if_pos hlt, hm]; rfl
  · unfold hdLong; rw [if_pos hlt, hm]; rfl
theorem hd_en {f : Fl} {k : Nat} {e : En} (he : f.E[k]? = some e) : (namesF f)[f.M.length + k]? = some e.name ∧ hdAt f (f.M.length + k) = e.at_ ∧ hdLong f (f.M.length + k) = (decide (e.V.length < 1) || decide (30 < e.V.length)) := by
  have e1 : f.M.length + k - f.M.length = k := by omega
  refine ⟨?_, ?_, ?_⟩
  · unfold namesF
    rw [List.getElem?_append_right (by simp), List.length_map, e1, List.getElem?_map, he]; rfl
  · unfold hdAt; rw [if_neg (by omega), e1, he]; rfl
  · unfold hdLong; rw [if_neg (by omega), e1, he]; rfl
theorem hdErr_is {f : Fl} {k : Nat} {x : List UInt8} (hx : (namesF f)[k]? = some x) : hdErr f k = if stillT (namesF f) k x then (if hdLong f k then some (hdAt f k, 2) else none) else some (hdAt f k, 4) := by
  have e : (namesF f).getD k [] = x := by rw [List.getD_eq_getElem?_getD, hx]; rfl
  rw [stillT_self hx]
  unfold hdErr
  rw [e]
  cases h : ((typeK x).isSome || ((namesF f).take k).contains x) <;> simp [h]
theorem stillT_next {l : List (List UInt8)} {k : Nat} {x : List UInt8} (h : l[k]? = some x) : (fun y => stillT l k y && decide (y ≠ x)) = stillT l (k + 1) := still_next h
theorem heads_at {f : Fl} {k : Nat} {r : Int × Nat} (h : ∀ j, j < k → hdErr f j = none) (hk : k < (namesF f).length) (hr : hdErr f k = some r) : errH f = some r := findSome_range h hk hr
theorem heads_none {f : Fl} (h : ∀ j, j < (namesF f).length → hdErr f j = none) : errH f = none := by
  unfold errH
  rw [List.findSome?_eq_none_iff]
  exact fun j hj => h j (List.mem_range.1 hj)
/-- What a function tells of a fault, or of none. -/
def errV2 (r : Option (Int × Nat)) : Value := .tuple #[.int .i64 ((r.map (·.1)).getD 0), .int .i64 (((r.map (·.2)).getD 0 : Nat) : Int)]
theorem names_in {f : Fl} (h : FlIn f) : ∀ x ∈ f.M.map (·.name) ++ f.E.map (·.name), x.length ≤ maxLen := by
  intro x hx
  rcases List.mem_append.1 hx with hx | hx
  · obtain ⟨m, hm, rfl⟩ := List.mem_map.1 hx
    exact (h.M m hm).name
  · obtain ⟨e, he, rfl⟩ := List.mem_map.1 hx
    exact (h.E e he).name

set_option maxRecDepth 1000000 in
set_option maxHeartbeats 8000000 in
theorem checkHeads_any (B : Nat) (f : Fl) (vM vE : Value) (w : World) (hB : B ≤ w.heap.size) (hf : FAt B w f vM vE) (hin : FlIn f) (hM : f.M.length ≤ 20) (hE : f.E.length ≤ 20) (T : Tabs w) :
    Calls Tryz.prog 32 #[.agg #[vM, vE]] w fun e w' => e = .returned (errV2 (errH f)) ∧ Below w.heap.size w w' := by
  obtain ⟨xs, ys, h1, h2, h3, h4⟩ := hf
  have H1 := Lib.hid (fun wx (hx : Below w.heap.size w wx) => eachMs_any B vM xs f.M (by omega) wx (Nat.le_trans hB hx.size) (h1.low (Low.below hx hB)) (h2.low (Low.below hx hB)))
  have H2 := Lib.hid (fun wx (hx : Below w.heap.size w wx) => eachEn_any B vE ys f.E (by omega) wx (Nat.le_trans hB hx.size) (h3.low (Low.below hx hB)) (h4.low (Low.below hx hB)))
  have H3 := Lib.hid (fun u1 u2 wx (hT : Tabs wx) r1 r2 => typeNames_any u1 u2 (f.M.map (·.name)) (f.E.map (·.name)) wx hT (by simpa using r1) (by simpa using r2) (by simp; omega) (names_in hin))
  obtain ⟨A1, q1, rfl, s1, b1⟩ := h1
  obtain ⟨A2, q2, rfl, s2, b2⟩ := h3
  have HM := Lib.hid s1
  have HE := Lib.hid s2
  have HMA := Lib.hid h2
  have HEA := Lib.hid h4
  have HIN := Lib.hid hin
  have HTB := Lib.hid T
  clear s1 s2 h2 h4 hin T
  have hbw := below_new w (.cells #[.slice A1 f.M.length q1, .slice A2 f.E.length q2] 25)
  have h0 := box2 (w := (w.alloc (.cells #[.slice A1 f.M.length q1, .slice A2 f.E.length q2] 25)).drew) (heap_alloc_new w (.cells #[.slice A1 f.M.length q1, .slice A2 f.E.length q2] 25))
  have LBD : Below w.heap.size w ((w.alloc (.cells #[.slice A1 f.M.length q1, .slice A2 f.E.length q2] 25)).drew) := hbw.trans (Below.refl _ _).drew
  clear hbw
  go_enter Tryz.func32, Tryz.ntmps32
  go_wp2_with fail
  go_region_held3 (fun w' => w'.heap[w.heap.size]? = some (.cells #[.slice A1 f.M.length q1, .slice A2 f.E.length q2] 25 (0, 0)) ∧ w'.cell? ⟨w.heap.size, 0, none⟩ = some (.slice A1 f.M.length q1) ∧ w'.cell? ⟨w.heap.size, 1, none⟩ = some (.slice A2 f.E.length q2))
    (first | exact h0 | exact box2_below hbM ‹_› | exact box2_below hbE ‹_› | exact box2_below hb4 ‹_› | go_keep)
    ((first
      | (go_at_call 64; refine (H1.out _ (by first | exact LBD | exact LBD.trans (hbE.mono LBD.size))).mono ?_; rintro e wM ⟨uM, rfl, hoM, hbM⟩)
      | (go_at_call 66; refine (H2.out _ (by first | exact LBD | exact LBD.trans (hbM.mono LBD.size))).mono ?_; rintro e wE ⟨uE, rfl, hoE, hbE⟩)
      | (go_at_call 44; refine (H3.out uM uE _ (by first | exact ((HTB.out.on LBD).on hbM).on hbE | exact ((HTB.out.on LBD).on hbE).on hbM) (by first | exact Rb.of_own hoM | exact Rb.of_own (own_below hoM hbE)) (by first | exact Rb.of_own hoE | exact Rb.of_own (own_below hoE hbM))).mono ?_; rintro e w4 ⟨b, rfl, hbl, hm4, hb4⟩)))
  all_goals
    have hbB : Below w.heap.size w w4 := by first | exact below_then (below_then (below_then LBD hbM) hbE) hb4 | exact below_then (below_then (below_then LBD hbE) hbM) hb4
    have hx4 : w4.heap[w.heap.size]? = some (.cells #[.slice A1 f.M.length q1, .slice A2 f.E.length q2] 25 (0, 0)) := by first | exact (box2_below hb4 (box2_below hbE (box2_below hbM h0))).1 | exact (box2_below hb4 (box2_below hbM (box2_below hbE h0))).1
    have hbs : w.heap.size + 1 ≤ b := by
      have h1 := hbM.size
      have h2 := hbE.size
      simp at h1 h2
      omega
    have e0 := heap_cell hx4 0
    have e1 := heap_cell hx4 1
    simp at e0 e1
    simp only [List.length_map] at hm4
    replace hm4 : FreeS w4 b (f.M.length + f.E.length) (stillT (namesF f) 0) := hm4
    have HX4 := Lib.hid hx4
    have HBB := Lib.hid hbB
    clear hx4 hb4 hbM hbE hoM hoE hbl h0 LBD hbB
    go_wp2
    go_loopw [19] (fun i wr => ∃ k : Nat, i = .int .i64 k ∧ k ≤ f.M.length ∧ (∀ j, j < k → hdErr f j = none) ∧ FreeS wr b (f.M.length + f.E.length) (stillT (namesF f) k) ∧ Below (w.heap.size + 1) w4 wr) (fun i _ => f.M.length - (intOf i).toNat)
    case atStart => exact ⟨0, rfl, by omega, fun j hj => by omega, hm4, Below.refl _ _⟩
    case round =>
      obtain ⟨k, rfl, hk, herr, hm, hb⟩ := hrel
      have hbw : Below w.heap.size w wr := HBB.out.trans (hb.mono (Nat.le_succ _))
      have HBW := Lib.hid hbw
      have HER := Lib.hid herr
      clear herr
      by_cases hlt : k < f.M.length
      · obtain ⟨m, hm0⟩ : ∃ m, f.M[k]? = some m := ⟨_, List.getElem?_eq_getElem hlt⟩
        obtain ⟨ad, vF, vO, vR, rfl, hg, hmr, c0, c1, c2, c3, c4⟩ := msr_at (HM.out.low b1 (Low.below hbw hB)) (HMA.out.low (Low.below hbw hB)) hm0
        obtain ⟨AF, cF, rfl, -, -⟩ := hmr.f
        obtain ⟨AO, cO, rfl, -, -⟩ := hmr.o
        obtain ⟨AR, cR, rfl, -, -⟩ := hmr.r
        obtain ⟨hx, ha, hl⟩ := hd_ms hm0
        have HER2 := Lib.hid (hdErr_is hx)
        have HNX := Lib.hid (stillT_next hx)
        have hmn := (HIN.out.M m (List.mem_of_getElem? hm0)).name
        have hlt2 : k < (namesF f).length := by rw [names_length]; omega
        obtain ⟨d, hd⟩ : ∃ d, stillT (namesF f) k m.name = d := ⟨_, rfl⟩
        have HT := fun wx hx => takeS_any b (f.M.length + f.E.length) (stillT (namesF f) k) m.name hmn wx hx
        simp only [hd] at HT
        rw [hd, ha, hl] at HER2
        have HTT := Lib.hid HT
        have hne : wr.heap.size ≠ b := by have := hm.lt; omega
        clear hm0 hmr hx ha hl hd HT hmn hbw
        cases d with
        | false =>
          have HE4 := Lib.hid (heads_at HER.out hlt2 HER2.out)
          go_wp2_with (go_at_call 49; refine (HTT.out _ (hm.alloc _)).mono ?_; rintro e w5 ⟨rfl, hm5, hg5⟩; have hx5 := box_kept (heap_alloc_new wr _) hg5 hne; have d4 := heap_cell hx5 4; simp at d4)
          go_ret2
          exact ⟨by rw [HE4.out]; rfl, (below_lit HBW.out _).grown hg5 (by have := HBW.out.size; simp; omega) (fun j hj => by injection hj with hj; omega)⟩
        | true =>
          by_cases g1 : 30 < m.F.length ∨ 30 < m.ones.length
          · have HE4 := Lib.hid (heads_at (r := (m.at_, 2)) HER.out hlt2 (by
              rw [HER2.out]
              have : (decide (30 < m.F.length) || decide (30 < m.ones.length)) = true := by simpa using g1
              rw [this]; rfl))
            obtain ⟨a1, ha1⟩ : ∃ a, decide ((30 : Int) < (m.F.length : Int)) = a := ⟨_, rfl⟩
            obtain ⟨a2, ha2⟩ : ∃ a, decide ((30 : Int) < (m.ones.length : Int)) = a := ⟨_, rfl⟩
            have HG : Hid ((a1 || a2) = true) := Lib.hid (by rw [← ha1, ← ha2]; simp; omega)
            clear g1
            cases a1 <;> cases a2
            · exact absurd HG.out (by simp)
            all_goals
              go_wp2_with (go_at_call 49; refine (HTT.out _ (hm.alloc _)).mono ?_; rintro e w5 ⟨rfl, hm5, hg5⟩; have hx5 := box_kept (heap_alloc_new wr _) hg5 hne; have d1 := heap_cell hx5 1; have d2 := heap_cell hx5 2; have d4 := heap_cell hx5 4; simp at d1 d2 d4)
              go_ret2
              exact ⟨by rw [HE4.out]; rfl, (below_lit HBW.out _).grown hg5 (by have := HBW.out.size; simp; omega) (fun j hj => by injection hj with hj; omega)⟩
          · have hd1 : decide ((30 : Int) < (m.F.length : Int)) = false := by rw [decide_eq_false_iff_not]; omega
            have hd2 : decide ((30 : Int) < (m.ones.length : Int)) = false := by rw [decide_eq_false_iff_not]; omega
            have HE4 : Hid (hdErr f k = none) := Lib.hid (by
              rw [HER2.out]
              have : (decide (30 < m.F.length) || decide (30 < m.ones.length)) = false := by simp; omega
              rw [this]; rfl)
            clear g1
            go_wp2_with (go_at_call 49; refine (HTT.out _ (hm.alloc _)).mono ?_; rintro e w5 ⟨rfl, hm5, hg5⟩; have hx5 := box_kept (heap_alloc_new wr _) hg5 hne; have d1 := heap_cell hx5 1; have d2 := heap_cell hx5 2; have d4 := heap_cell hx5 4; simp at d1 d2 d4)
            refine ⟨⟨k + 1, by go_num, by omega, fun j hj => ?_, hm5.eq HNX.out, (hb.alloc (by have := hm.lt; omega) _).grown hg5 (by have := hm.lt; simp; omega) (fun j hj => by injection hj with hj; omega)⟩, by simp [intOf]; omega⟩
            by_cases hj2 : j < k
            · exact HER.out j hj2
            · obtain rfl : j = k := by omega
              exact HE4.out
      · obtain rfl : k = f.M.length := by omega
        have hx6 : wr.heap[w.heap.size]? = some (.cells #[.slice A1 f.M.length q1, .slice A2 f.E.length q2] 25 (0, 0)) := (hb.block w.heap.size (by omega)).trans HX4.out
        have e6 := heap_cell hx6 1
        simp at e6
        clear hx6
        go_wp2
        go_loopw [46] (fun i wy => ∃ k : Nat, i = .int .i64 k ∧ k ≤ f.E.length ∧ (∀ j, j < f.M.length + k → hdErr f j = none) ∧ FreeS wy b (f.M.length + f.E.length) (stillT (namesF f) (f.M.length + k)) ∧ Below (w.heap.size + 1) w4 wy) (fun i _ => f.E.length - (intOf i).toNat)
        case atStart => exact ⟨0, rfl, by omega, fun j hj => HER.out j hj, hm, hb⟩
        case round =>
          obtain ⟨k, rfl, hk, herr, hm, hb⟩ := hrel
          have hbw := HBB.out.trans (hb.mono (Nat.le_succ _))
          have HBW := Lib.hid hbw
          have HER := Lib.hid herr
          clear herr
          by_cases hlt : k < f.E.length
          · obtain ⟨m, hm0⟩ : ∃ m, f.E[k]? = some m := ⟨_, List.getElem?_eq_getElem hlt⟩
            obtain ⟨ad, vV, rfl, hg, hmr, c0, c1, c2⟩ := enr_at (HE.out.low b2 (Low.below hbw hB)) (HEA.out.low (Low.below hbw hB)) hm0
            obtain ⟨AF, cF, rfl, -, -⟩ := hmr
            obtain ⟨hx, ha, hl⟩ := hd_en hm0
            have HER2 := Lib.hid (hdErr_is hx)
            have HNX := Lib.hid (stillT_next hx)
            have hmn := (HIN.out.E m (List.mem_of_getElem? hm0)).name
            have hlt2 : f.M.length + k < (namesF f).length := by rw [names_length]; omega
            obtain ⟨d, hd⟩ : ∃ d, stillT (namesF f) (f.M.length + k) m.name = d := ⟨_, rfl⟩
            have HT := fun wx hx => takeS_any b (f.M.length + f.E.length) (stillT (namesF f) (f.M.length + k)) m.name hmn wx hx
            simp only [hd] at HT
            rw [hd, ha, hl] at HER2
            have HTT := Lib.hid HT
            have hne := Nat.ne_of_gt hm.lt
            clear hm0 hx ha hl hd HT hmn hbw
            cases d with
            | false =>
              have HE4 := Lib.hid (heads_at HER.out hlt2 HER2.out)
              go_wp2_with (go_at_call 49; refine (HTT.out _ (hm.alloc _)).mono ?_; rintro e w5 ⟨rfl, hm5, hg5⟩; have hx5 := box_kept (heap_alloc_new _ _) hg5 hne; have d4 := heap_cell hx5 2; simp at d4)
              go_ret2
              exact ⟨by rw [HE4.out]; rfl, (below_lit HBW.out _).grown hg5 (by have := HBW.out.size; simp; omega) (fun j hj => by injection hj with hj; omega)⟩
            | true =>
              obtain ⟨a1, ha1⟩ : ∃ a, (decide ((1 : Int) ≤ (m.V.length : Int)) && decide ((m.V.length : Int) ≤ 30)) = a := ⟨_, rfl⟩
              have HN := Lib.hid (fun wx => mayName_any m.V.length wx)
              rw [ha1] at HN
              cases a1 with
              | false =>
                have HE4 := Lib.hid (heads_at (r := (m.at_, 2)) HER.out hlt2 (by
                  rw [HER2.out]
                  have : (decide (m.V.length < 1) || decide (30 < m.V.length)) = true := by
                    simp only [Bool.or_eq_true, decide_eq_true_eq]
                    simp only [Bool.and_eq_false_iff, decide_eq_false_iff_not] at ha1
                    omega
                  rw [this]; rfl))
                clear ha1
                go_wp2_with (first
                  | (go_at_call 49; refine (HTT.out _ (hm.alloc _)).mono ?_; rintro e w5 ⟨rfl, hm5, hg5⟩; have hx5 := box_kept (heap_alloc_new _ _) hg5 hne; have d1 := heap_cell hx5 1; have d4 := heap_cell hx5 2; simp at d1 d4)
                  | (go_at_call 68; refine (HN.out _).mono ?_; rintro e w6 ⟨rfl, rfl⟩))
                go_ret2
                exact ⟨by rw [HE4.out]; rfl, (below_lit HBW.out _).grown hg5 (by have := HBW.out.size; simp; omega) (fun j hj => by injection hj with hj; omega)⟩
              | true =>
                have HE4 : Hid (hdErr f (f.M.length + k) = none) := Lib.hid (by
                  rw [HER2.out]
                  have : (decide (m.V.length < 1) || decide (30 < m.V.length)) = false := by
                    simp only [Bool.or_eq_false_iff, decide_eq_false_iff_not]
                    simp only [Bool.and_eq_true, decide_eq_true_eq] at ha1
                    omega
                  rw [this]; rfl)
                clear ha1
                go_wp2_with (first
                  | (go_at_call 49; refine (HTT.out _ (hm.alloc _)).mono ?_; rintro e w5 ⟨rfl, hm5, hg5⟩; have hx5 := box_kept (heap_alloc_new _ _) hg5 hne; have d1 := heap_cell hx5 1; have d4 := heap_cell hx5 2; simp at d1 d4)
                  | (go_at_call 68; refine (HN.out _).mono ?_; rintro e w6 ⟨rfl, rfl⟩))
                refine ⟨⟨k + 1, by go_num, by omega, fun j hj => ?_, hm5.eq HNX.out, (hb.alloc (by have := hm.lt; omega) _).grown hg5 (by have := hm.lt; simp; omega) (fun j hj => by injection hj with hj; omega)⟩, by simp [intOf]; omega⟩
                by_cases hj2 : j < f.M.length + k
                · exact HER.out j hj2
                · obtain rfl : j = f.M.length + k := by omega
                  exact HE4.out
          · obtain rfl : k = f.E.length := by omega
            go_wp2
            go_ret2
            refine ⟨?_, HBW.out⟩
            rw [heads_none (fun j hj => HER.out j (by rw [names_length] at hj; exact hj))]
            rfl
end Go.Proofs.YtciiemomfniecaaGreatDoor
/-
  What names mean as types: a map of pairs, its laws, and the contract of the function that makes it.
-/
namespace Go.Proofs.YtciiemomfniecaaGreatDoor
set_option maxRecDepth 100000

open Go.RowKit Go.WideMaps Go.Maps

def mnV (r : Int × Int) : Value := .agg #[.int .i64 r.1, .int .i64 r.2]
def mnD (r : Int × Int) : DataW Unit := .agg [.lit (.int .i64 r.1), .lit (.int .i64 r.2)]
/-- How a pair of numbers reads. -/
def mnElem : Value → Option (DataW Unit × List MemPlace)
  | .agg cs => match cs.toList with
    | [.int .i64 a, .int .i64 b] => some (mnD (a, b), [])
    | _ => none
  | _ => none
theorem mnElem_mk (r : Int × Int) : mnElem (mnV r) = some (mnD r, []) := rfl
theorem mnElem_inv {v : Value} {r : Int × Int} {ps : List MemPlace} (h : mnElem v = some (mnD r, ps)) : v = mnV r := by
  unfold mnElem at h
  split at h
  · rename_i cs
    split at h
    · rename_i a b hc
      simp only [Option.some.injEq, Prod.mk.injEq, mnD, DataW.agg.injEq, List.cons.injEq, DataW.lit.injEq, Lit.int.injEq, true_and, and_true] at h
      obtain ⟨⟨rfl, rfl⟩, _⟩ := h
      have : cs = #[.int .i64 r.1, .int .i64 r.2] := by rw [← hc]
      rw [this]; rfl
    · cases h
  · cases h
/-- Block b is a map of names; it tells f of them. -/
def Mean (w : World) (b n : Nat) (f : List UInt8 → Option (Int × Int)) : Prop := ∃ D : DataW Unit, w.ownsMap Tryz.prog 9 mnElem b n D ∧ ∀ x, has D (kS x) = (f x).isSome ∧ ∀ r, f x = some r → D.atKey (kS x) (mnD (0, 0)) = mnD r
theorem Mean.made (w : World) : Mean (w.alloc (.map #[] 0)) w.heap.size 0 (fun _ => none) := ⟨.map [], World.ownsMap_made w _ _ _, fun _ => ⟨rfl, fun _ h => by cases h⟩⟩
theorem Mean.mono {w : World} {b n n' : Nat} {f : List UInt8 → Option (Int × Int)} (h : Mean w b n f) (hn : n ≤ n') : Mean w b n' f := by
  obtain ⟨D, h1, h2⟩ := h
  exact ⟨D, h1.mono hn, h2⟩
theorem Mean.lt {w : World} {b n : Nat} {f : List UInt8 → Option (Int × Int)} (h : Mean w b n f) : b < w.heap.size := by
  obtain ⟨D, h1, _⟩ := h
  exact h1.lt
theorem Mean.block {w w' : World} {b n : Nat} {f : List UInt8 → Option (Int × Int)} (h : Mean w b n f) (hb : w'.heap[b]? = w.heap[b]?) : Mean w' b n f := by
  obtain ⟨D, ⟨es, clock, h1, h2⟩, h3⟩ := h
  exact ⟨D, ⟨es, clock, hb.trans h1, h2⟩, h3⟩
theorem Mean.on {w w' : World} {b n : Nat} {f : List UInt8 → Option (Int × Int)} (h : Mean w b n f) (hb : Below w.heap.size w w') : Mean w' b n f := h.block (hb.block b h.lt)
theorem Mean.alloc {w : World} {b n : Nat} {f : List UInt8 → Option (Int × Int)} (h : Mean w b n f) (o : Obj) : Mean (w.alloc o) b n f := h.on (below_new w o)
theorem Mean.eq {w : World} {b n : Nat} {f g : List UInt8 → Option (Int × Int)} (h : Mean w b n f) (e : f = g) : Mean w b n g := e ▸ h
theorem zero_mean (w : World) : (zeroValue 126).run Tryz.prog w = .ok (mnV (0, 0)) w := by kernel_rfl
section

variable {w : World} {ops : Array Oper} {rest : List Oper} {o : Oper} {a : Act} {Q : Exit → Act → World → Prop}

theorem wpList_mean_put (hg : o.guard = none) (m x v : Operand) (hop : o.op = Op.mapUpdate 72 m x v) (b n : Nat) (f : List UInt8 → Option (Int × Int)) (hm : a.eval m = .map (some b)) (hown : Mean w b n f) (hn : n < 1000000000) (y : List UInt8) (r : Int × Int)
    (hx : a.eval x = .string (txt y)) (hv : a.eval v = mnV r) (hy : y.length ≤ maxLen)
    (hK : ∀ w', Mean w' b (n + 1) (fun z => if z = y then some r else f z) → w.grownBy w' (some b) → wpList Tryz.prog ops Q rest (a.put o.dst undef) w') : wpList Tryz.prog ops Q (o :: rest) a w := by
  obtain ⟨D, h1, h2⟩ := hown
  refine wpList_mapUpdate_own w hg m x v _ hop 9 126 kS_law Tryz.underlying72 mnElem b n D hm h1 (by unfold maxLen; omega) _ _ (kS y) hx hv (kS_key hy) _ [] (mnElem_mk r) ?_
  intro w' r1 r2
  refine hK w' ⟨_, r1, fun z => ?_⟩ r2
  dsimp only
  by_cases hz : z = y
  · subst hz
    rw [has_put_same h1.isMap (kS_lit z), atKey_put_same h1.isMap (kS_lit z), if_pos rfl]
    exact ⟨rfl, fun q hq => by rw [Option.some.inj hq]⟩
  · rw [has_put_other (fun e => hz (kS_inj _ _ e)), atKey_put_other (fun e => hz (kS_inj _ _ e)), if_neg hz]
    exact h2 z
theorem wpList_mean_look (hg : o.guard = none) (m x : Operand) (hop : o.op = Op.lookup 72 m x true) (b n : Nat) (f : List UInt8 → Option (Int × Int)) (hm : a.eval m = .map (some b)) (hown : Mean w b n f) (y : List UInt8) (hx : a.eval x = .string (txt y)) (hy : y.length ≤ maxLen)
    (hK : wpList Tryz.prog ops Q rest (a.put o.dst (.tuple #[.agg #[.int .i64 ((f y).getD (0, 0)).1, .int .i64 ((f y).getD (0, 0)).2], .bool (f y).isSome])) w) : wpList Tryz.prog ops Q (o :: rest) a w := by
  obtain ⟨D, h1, h2⟩ := hown
  refine wpList_lookup_own_ok w hg m x _ hop 9 126 kS_law Tryz.underlying72 mnElem (zero_mean w) (mnD (0, 0)) [] (mnElem_mk (0, 0)) b n D hm h1 _ (kS y) hx (kS_key hy) ?_
  intro v ps hv
  obtain ⟨a1, a2⟩ := h2 y
  have e : v = mnV ((f y).getD (0, 0)) := by
    cases hf : f y with
    | none =>
      rw [hf] at a1
      rw [atKey_of_not_has a1] at hv
      exact mnElem_inv hv
    | some r =>
      rw [a2 r hf] at hv
      exact mnElem_inv hv
  rw [e, a1]
  exact hK
end

/-- What the first k plain types mean. -/
def plainM (k : Nat) (x : List UInt8) : Option (Int × Int) := ((plainsL.take k).find? fun q => q.1 == x).map fun q => ((q.2 : Int), 0)
theorem plainM_next {k : Nat} {q : List UInt8 × Nat} (h : plainsL[k]? = some q) : (fun z => if z = q.1 then some ((q.2 : Int), (0 : Int)) else plainM k z) = plainM (k + 1) := by
  funext z
  unfold plainM
  have hp : plainsL.Pairwise fun a b => a.1 ≠ b.1 := by decide
  cases hf : (plainsL.take k).find? fun q => q.1 == z with
  | none =>
    rw [find_take_next h hf]
    by_cases hz : z = q.1
    · subst hz; simp
    · rw [if_neg hz, if_neg (fun e => hz e.symm)]
  | some p =>
    have h1 := List.find?_some hf
    have h2 := List.mem_of_find?_eq_some hf
    have hz : z ≠ q.1 := by
      rintro rfl
      obtain ⟨i, hi, rfl⟩ := List.mem_iff_getElem.1 h2
      rw [List.length_take] at hi
      obtain ⟨hk, rfl⟩ := List.getElem?_eq_some_iff.1 h
      have := (List.pairwise_iff_getElem.1 hp) i k (by omega) hk (by omega)
      rw [List.getElem_take] at h1
      exact this (by simpa using h1)
    rw [if_neg hz, List.take_add_one, List.find?_append, hf]
    rfl
theorem plainM_all (f : Fl) : plainM 8 = meanK f 0 := by
  funext x
  rw [meanK_start, ← typeK_find]
  unfold plainM
  rw [show plainsL.take 8 = plainsL from rfl]
  cases plainsL.find? (fun q => q.1 == x) <;> rfl
theorem meanK_put {f : Fl} (hp : (namesF f).Pairwise (· ≠ ·)) {k : Nat} {y : List UInt8} (h : (namesF f)[k]? = some y) (ht : typeK y = none) (r : Int × Int) (hr : r = if k < f.M.length then (9, (k : Int)) else (6, ((k - f.M.length : Nat) : Int))) :
    (fun z => if z = y then some r else meanK f k z) = meanK f (k + 1) := by
  funext z
  rw [meanK_next hp h ht, hr]
  split
  · split <;> rfl
  · rfl
set_option maxRecDepth 1000000 in
set_option maxHeartbeats 8000000 in
theorem meanings_any (B : Nat) (f : Fl) (vM vE : Value) (w : World) (hB : B ≤ w.heap.size) (hf : FAt B w f vM vE) (hin : FlIn f) (hM : f.M.length ≤ 20) (hE : f.E.length ≤ 20) (hp : (namesF f).Pairwise (· ≠ ·)) (ht : ∀ x ∈ namesF f, typeK x = none) (T : Tabs w) :
    Calls Tryz.prog 33 #[.agg #[vM, vE]] w fun e w' => ∃ b n, e = .returned (.map (some b)) ∧ w.heap.size ≤ b ∧ Mean w' b n (kindF f) ∧ Below w.heap.size w w' := by
  obtain ⟨xs, ys, ⟨A1, q1, rfl, s1, b1⟩, h2, ⟨A2, q2, rfl, s2, b2⟩, h4⟩ := hf
  have HM := Lib.hid s1
  have HE := Lib.hid s2
  have HMA := Lib.hid h2
  have HEA := Lib.hid h4
  have HIN := Lib.hid hin
  have HP := Lib.hid hp
  have HTY := Lib.hid ht
  clear s1 s2 h2 h4 hin hp ht
  have hmm := @run_makeMap Tryz.prog
  have hb0 : Below w.heap.size w ((w.alloc (.cells #[.slice A1 f.M.length q1, .slice A2 f.E.length q2] 25)).alloc (.map #[] 0)) := below_lit (below_new _ _) _
  obtain ⟨tt, fr, hT⟩ := (T.on hb0).plains
  have hm0 := Mean.made (w.alloc (.cells #[.slice A1 f.M.length q1, .slice A2 f.E.length q2] 25))
  have hx0 : ((w.alloc (.cells #[.slice A1 f.M.length q1, .slice A2 f.E.length q2] 25)).alloc (.map #[] 0)).heap[w.heap.size]? = some (.cells #[.slice A1 f.M.length q1, .slice A2 f.E.length q2] 25 (0, 0)) := ((below_new _ _).block _ (by simp)).trans (heap_alloc_new w _)
  rw [show (w.alloc (.cells #[.slice A1 f.M.length q1, .slice A2 f.E.length q2] 25)).heap.size = w.heap.size + 1 by simp] at hm0
  go_enter Tryz.func33, Tryz.ntmps33
  go_wp2_with (refine wpList_load_row rfl 88 _ rfl 0 rfl tt _ fr _ hT Tryz.underlying88 rfl (by kernel_rfl) ?_)
  generalize (w.alloc (.cells #[.slice A1 f.M.length q1, .slice A2 f.E.length q2] 25)).alloc (.map #[] 0) = w1 at *
  have HX := Lib.hid hx0
  have HB0 := Lib.hid hb0
  clear hx0 hb0 hT T hmm
  go_loopw [12] (fun i wr => ∃ k : Nat, i = .int .i64 k ∧ k ≤ 8 ∧ Mean wr (w.heap.size + 1) k (plainM k) ∧ Below (w.heap.size + 1) w1 wr) (fun i _ => 8 - (intOf i).toNat)
  case atStart => exact ⟨0, rfl, by omega, hm0, Below.refl _ _⟩
  case round =>
    obtain ⟨k, rfl, hk, hm, hb⟩ := hrel
    by_cases hlt : k < 8
    · obtain ⟨q, hq⟩ : ∃ q, plainsL[k]? = some q := ⟨_, List.getElem?_eq_getElem hlt⟩
      have hi := index_plain wr hq
      have hql := plain_short hq
      have HN := Lib.hid (plainM_next hq)
      have hl := hm.lt
      clear hq
      go_wp2_with (at_mapUpdate; refine wpList_mean_put rfl _ _ _ rfl (w.heap.size + 1) _ _ rfl (hm.alloc _) (by omega) q.1 ((q.2 : Int), 0) rfl rfl hql ?_; intro w3 h3 hg3)
      exact ⟨⟨k + 1, by go_num, by omega, h3.eq HN.out, (hb.alloc (by omega) _).grown hg3 (by simp; omega) (fun j hj => by injection hj with hj; omega)⟩, by simp [intOf]; omega⟩
    · obtain rfl : k = 8 := by omega
      rw [plainM_all f] at hm
      have hl := hm.lt
      have hx6 : wr.heap[w.heap.size]? = some (.cells #[.slice A1 f.M.length q1, .slice A2 f.E.length q2] 25 (0, 0)) := (hb.block w.heap.size (by omega)).trans HX.out
      have e0 := heap_cell hx6 0
      simp at e0
      clear hx6
      go_wp2
      go_loopw [25] (fun i wy => ∃ k : Nat, i = .int .i64 k ∧ k ≤ f.M.length ∧ Mean wy (w.heap.size + 1) (8 + k) (meanK f k) ∧ Below (w.heap.size + 1) w1 wy) (fun i _ => f.M.length - (intOf i).toNat)
      case atStart => exact ⟨0, rfl, by omega, hm, hb⟩
      case round =>
        obtain ⟨k, rfl, hk, hm, hb⟩ := hrel
        have hl := hm.lt
        have hbw := HB0.out.trans (hb.mono (Nat.le_succ _))
        by_cases hlt : k < f.M.length
        · obtain ⟨m, hm0⟩ : ∃ m, f.M[k]? = some m := ⟨_, List.getElem?_eq_getElem hlt⟩
          obtain ⟨ad, vF, vO, vR, rfl, hg, hmr, c0, c1, c2, c3, c4⟩ := msr_at (HM.out.low b1 (Low.below hbw hB)) (HMA.out.low (Low.below hbw hB)) hm0
          obtain ⟨AF, cF, rfl, -, -⟩ := hmr.f
          obtain ⟨AO, cO, rfl, -, -⟩ := hmr.o
          obtain ⟨AR, cR, rfl, -, -⟩ := hmr.r
          obtain ⟨hx, -, -⟩ := hd_ms hm0
          have hmn := (HIN.out.M m (List.mem_of_getElem? hm0)).name
          have HN := Lib.hid (meanK_put HP.out hx (HTY.out _ (List.mem_of_getElem? hx)) (9, (k : Int)) (by rw [if_pos hlt]))
          clear hm0 hmr hx
          go_wp2_with (at_mapUpdate; refine wpList_mean_put rfl _ _ _ rfl (w.heap.size + 1) _ _ rfl (hm.alloc _) (by omega) m.name (9, (k : Int)) rfl rfl hmn ?_; intro w3 h3 hg3)
          exact ⟨⟨_, _, _, _, _, _, _, _, _, _, _, _, _, ⟨k + 1, rfl, by omega, by rw [show 8 + (k + 1) = 8 + k + 1 by omega]; exact h3.eq HN.out, (hb.alloc (by omega) _).grown hg3 (by simp; omega) (fun j hj => by injection hj with hj; omega)⟩, rfl⟩, by simp [intOf]; omega⟩
        · obtain rfl : k = f.M.length := by omega
          have hx6 := (hb.block w.heap.size (by omega)).trans HX.out
          have e0 := heap_cell hx6 1
          simp at e0
          clear hx6
          go_wp2
          go_loopw [39] (fun i wz => ∃ k : Nat, i = .int .i64 k ∧ k ≤ f.E.length ∧ Mean wz (w.heap.size + 1) (8 + f.M.length + k) (meanK f (f.M.length + k)) ∧ Below (w.heap.size + 1) w1 wz) (fun i _ => f.E.length - (intOf i).toNat)
          case atStart => exact ⟨0, rfl, by omega, hm, hb⟩
          case round =>
            obtain ⟨k, rfl, hk, hm, hb⟩ := hrel
            have hl := hm.lt
            have hbw := HB0.out.trans (hb.mono (Nat.le_succ _))
            by_cases hlt : k < f.E.length
            · obtain ⟨m, hm0⟩ : ∃ m, f.E[k]? = some m := ⟨_, List.getElem?_eq_getElem hlt⟩
              obtain ⟨ad, vV, rfl, hg, hmr, c0, c1, c2⟩ := enr_at (HE.out.low b2 (Low.below hbw hB)) (HEA.out.low (Low.below hbw hB)) hm0
              obtain ⟨AF, cF, rfl, -, -⟩ := hmr
              obtain ⟨hx, -, -⟩ := hd_en hm0
              have hmn := (HIN.out.E m (List.mem_of_getElem? hm0)).name
              have HN := Lib.hid (meanK_put HP.out hx (HTY.out _ (List.mem_of_getElem? hx)) (6, (k : Int)) (by rw [if_neg (by omega), show f.M.length + k - f.M.length = k by omega]))
              clear hm0 hx
              go_wp2_with (at_mapUpdate; refine wpList_mean_put rfl _ _ _ rfl (w.heap.size + 1) _ _ rfl (hm.alloc _) (by omega) m.name (6, (k : Int)) rfl rfl hmn ?_; intro w3 h3 hg3)
              exact ⟨⟨_, _, _, _, _, _, _, _, _, _, _, _, _, ⟨k + 1, rfl, by omega, by rw [show 8 + f.M.length + (k + 1) = 8 + f.M.length + k + 1 by omega]; exact h3.eq HN.out, (hb.alloc (by omega) _).grown hg3 (by simp; omega) (fun j hj => by injection hj with hj; omega)⟩, rfl⟩, by simp [intOf]; omega⟩
            · obtain rfl : k = f.E.length := by omega
              rw [← names_length, meanK_all] at hm
              go_wp2
              go_ret
              exact ⟨w.heap.size + 1, _, rfl, by omega, hm, hbw⟩
end Go.Proofs.YtciiemomfniecaaGreatDoor
/-
  A field that is resolved: the contract.
-/
namespace Go.Proofs.YtciiemomfniecaaGreatDoor
set_option maxRecDepth 100000

open Go.RowKit Go.Maps

def df0 : Df := ⟨0, [], 0, 0, false, 0, 0⟩
/-- What is told of a field whose name, number and stance are right. -/
def fieldR (f : Fl) (x : Fd) : Df × Nat := if decide (x.key = []) || keyOK x.key then (if (kindF f x.type).isSome then (defF f x, 0) else (df0, 3)) else (df0, 5)
theorem infoDf : (Tryz.prog.info? 39).map (·.size) = some 7 := by kernel_rfl
theorem wpList_store_df {ops : Array Oper} {rest : List Oper} {o : Oper} {a : Act} {w : World} {Q : Exit → Act → World → Prop} (hgd : o.guard = none) (x y : Operand) (ho : o.op = .store 39 x y)
    (hd : o.dst = none) (g : Nat) (b1 : ByteArray) (b4 : Bool) (b0 b2 b3 b5 b6 : Int) (u0 u1 u2 u3 u4 u5 u6 : Value) (hx : a.eval x = .pointer (some ⟨g, 0, none⟩)) (hy : a.eval y = .agg #[.int .i64 b0, .string b1, .int .i64 b2, .int .i64 b3, .bool b4, .int .i64 b5, .int .i64 b6])
    (t : TypeId) (hg : w.heap[g]? = some (.cells #[u0, u1, u2, u3, u4, u5, u6] t (0, 0)))
    (h : wpList Tryz.prog ops Q rest a (w.setRow g #[.int .i64 b0, .string b1, .int .i64 b2, .int .i64 b3, .bool b4, .int .i64 b5, .int .i64 b6])) : wpList Tryz.prog ops Q (o :: rest) a w :=
  wpList_store_rowTo hgd 39 x y ho hd g _ hx hy t _ hg infoDf rfl (by simp [Value.oneCell']) h
theorem results_df1 {fn : Func} {p u : Tmp} (h : fn.results = #[.cell p 39, .tmp u]) (tmps : Array Value) (w : World) (g : Nat) (t : TypeId) (u0 u1 u2 u3 u4 u5 u6 : Value) (fr : Nat × Nat)
    (hp : tmps.getD p undef = .pointer (some ⟨g, 0, none⟩)) (hg : w.heap[g]? = some (.cells #[u0, u1, u2, u3, u4, u5, u6] t fr)) :
    (results fn tmps).run Tryz.prog w = .ok (.tuple #[.agg #[u0, u1, u2, u3, u4, u5, u6], tmps.getD u undef]) w :=
  results_row_tmp1 h tmps w g t _ fr _ hp hg Tryz.underlying39 rfl infoDf
theorem setRow_below {w w' : World} {g : Nat} (h : Below w.heap.size w w') (hg : w.heap.size ≤ g) (cs : Array Value) : Below w.heap.size w (w'.setRow g cs) := below_setRow h hg cs

set_option maxRecDepth 1000000 in
set_option maxHeartbeats 4000000 in
theorem field_anyT (b n : Nat) (f : Fl) (x : Fd) (hx : FdIn x) (w : World) (hm : Mean w b n (kindF f)) (T : Tabs w) :
    Calls Tryz.prog 80 #[.map (some b), .agg #[.string (txt x.type), .string (txt x.key), .bool x.rep, .int .i64 x.one, .string (txt x.name), .int .i64 x.no, .int .i64 x.at_]] w fun e w' => e = .returned (.tuple #[.agg (DC (fieldR f x).1).toArray, .int .i64 ((fieldR f x).2 : Nat)]) ∧ Below w.heap.size w w' := by
  have hb0 : Below w.heap.size w ((w.alloc (.cells #[.string (txt x.type), .string (txt x.key), .bool x.rep, .int .i64 x.one, .string (txt x.name), .int .i64 x.no, .int .i64 x.at_] 53)).alloc (.cells #[.int .i64 0, .string ⟨#[]⟩, .int .i64 0, .int .i64 0, .bool false, .int .i64 0, .int .i64 0] 39)) := below_lit (below_new _ _) _
  have HK := Lib.hid (keyOf_any x.key _ (T.on hb0))
  have hx0 : ((w.alloc (.cells #[.string (txt x.type), .string (txt x.key), .bool x.rep, .int .i64 x.one, .string (txt x.name), .int .i64 x.no, .int .i64 x.at_] 53)).alloc (.cells #[.int .i64 0, .string ⟨#[]⟩, .int .i64 0, .int .i64 0, .bool false, .int .i64 0, .int .i64 0] 39)).heap[w.heap.size]? = some (.cells #[.string (txt x.type), .string (txt x.key), .bool x.rep, .int .i64 x.one, .string (txt x.name), .int .i64 x.no, .int .i64 x.at_] 53 (0, 0)) := ((below_new _ _).block _ (by simp)).trans (heap_alloc_new w _)
  have hx1 := heap_second w (.cells #[.string (txt x.type), .string (txt x.key), .bool x.rep, .int .i64 x.one, .string (txt x.name), .int .i64 x.no, .int .i64 x.at_] 53) (.cells #[.int .i64 0, .string ⟨#[]⟩, .int .i64 0, .int .i64 0, .bool false, .int .i64 0, .int .i64 0] 39)
  have HX0 := Lib.hid hx0
  have HX1 := Lib.hid hx1
  have HB0 := Lib.hid hb0
  have HM := Lib.hid hm
  have htl := hx.type
  clear hx0 hx1 hb0 hm hx T
  obtain ⟨kb, hkb⟩ : ∃ kb, (decide (x.key = []) || keyOK x.key) = kb := ⟨_, rfl⟩
  obtain ⟨ty, hty⟩ : ∃ ty, kindF f x.type = ty := ⟨_, rfl⟩
  rw [hkb] at HK
  have HD : Hid (defF f x = ⟨x.no, x.name, (ty.getD (0, 0)).1, (ty.getD (0, 0)).2, x.rep, keyK x.key, x.one⟩) := Lib.hid (by rw [← hty]; rfl)
  have HTY := Lib.hid hty
  cases kb with
  | false =>
    have HR : Hid (fieldR f x = (df0, 5)) := Lib.hid (by unfold fieldR; rw [hkb]; rfl)
    clear hkb hty
    go_enter Tryz.func80, Tryz.ntmps80
    go_wp2_with (first
      | (go_at_call 118; refine HK.out.mono ?_; rintro e w1 ⟨rfl, hb1⟩; have hz := (hb1.block (w.heap.size + 1) (by simp)).trans HX1.out)
      | (refine wpList_store_df rfl _ _ rfl rfl (w.heap.size + 1) _ _ _ _ _ _ _ _ _ _ _ _ _ _ rfl rfl _ hz ?_))
    refine bodyPost_ret (results_df1 rfl _ _ (w.heap.size + 1) _ _ _ _ _ _ _ _ (0, 0) rfl (setRow_heap _ _ _ _ _ _ hz)) rfl ?_
    exact ⟨by rw [HR.out]; rfl, below_setRow (below_then HB0.out hb1) (by omega) _⟩
  | true =>
    cases ty with
    | none =>
      have HR : Hid (fieldR f x = (df0, 3)) := Lib.hid (by unfold fieldR; rw [hkb, hty]; rfl)
      clear hkb hty
      go_enter Tryz.func80, Tryz.ntmps80
      go_wp2_with (first
        | (go_at_call 118; refine HK.out.mono ?_; rintro e w1 ⟨rfl, hb1⟩; have hz := (hb1.block (w.heap.size + 1) (by simp)).trans HX1.out; have hy := (hb1.block w.heap.size (by simp; omega)).trans HX0.out; have d0 := heap_cell hy 0; simp at d0; have hm1 := (HM.out.on HB0.out).on hb1)
        | (at_lookup; refine wpList_mean_look rfl _ _ rfl b n _ rfl hm1 x.type rfl htl ?_; rw [HTY.out])
        | (refine wpList_store_df rfl _ _ rfl rfl (w.heap.size + 1) _ _ _ _ _ _ _ _ _ _ _ _ _ _ rfl rfl _ (((below_new w1 _).block (w.heap.size + 1) (Array.getElem?_eq_some_iff.1 hz).1).trans hz) ?_))
      refine bodyPost_ret (results_df1 rfl _ _ (w.heap.size + 1) _ _ _ _ _ _ _ _ (0, 0) rfl (setRow_heap _ _ _ _ _ _ (((below_new w1 _).block (w.heap.size + 1) (Array.getElem?_eq_some_iff.1 hz).1).trans hz))) rfl ?_
      exact ⟨by rw [HR.out]; rfl, below_setRow (below_lit (below_then HB0.out hb1) _) (by omega) _⟩
    | some r =>
      have HR : Hid (fieldR f x = (defF f x, 0)) := Lib.hid (by unfold fieldR; rw [hkb, hty]; rfl)
      clear hkb hty
      go_enter Tryz.func80, Tryz.ntmps80
      go_wp2_with (first
        | (go_at_call 118; refine HK.out.mono ?_; rintro e w1 ⟨rfl, hb1⟩; have hz := (hb1.block (w.heap.size + 1) (by simp)).trans HX1.out; have hy := (hb1.block w.heap.size (by simp; omega)).trans HX0.out; have d0 := heap_cell hy 0; have d2 := heap_cell hy 2; have d3 := heap_cell hy 3; have d4 := heap_cell hy 4; have d5 := heap_cell hy 5; simp at d0 d2 d3 d4 d5; have hl1 : w.heap.size < w1.heap.size := (Array.getElem?_eq_some_iff.1 hy).1; have hl2 : w.heap.size + 1 < w1.heap.size := (Array.getElem?_eq_some_iff.1 hz).1; have hm1 := (HM.out.on HB0.out).on hb1)
        | (at_lookup; refine wpList_mean_look rfl _ _ rfl b n _ rfl hm1 x.type rfl htl ?_; rw [HTY.out])
        | (refine wpList_store_df rfl _ _ rfl rfl (w.heap.size + 1) _ _ _ _ _ _ _ _ _ _ _ _ _ _ rfl rfl _ (((below_new w1 _).block (w.heap.size + 1) (Array.getElem?_eq_some_iff.1 hz).1).trans hz) ?_))
      refine bodyPost_ret (results_df1 rfl _ _ (w.heap.size + 1) _ _ _ _ _ _ _ _ (0, 0) rfl (setRow_heap _ _ _ _ _ _ (((below_new w1 _).block (w.heap.size + 1) (Array.getElem?_eq_some_iff.1 hz).1).trans hz))) rfl ?_
      exact ⟨by rw [HR.out, HD.out]; rfl, below_setRow (below_lit (below_then HB0.out hb1) _) (by omega) _⟩
end Go.Proofs.YtciiemomfniecaaGreatDoor
/-
  A message's fields are sorted by their numbers: the contract.
-/
namespace Go.Proofs.YtciiemomfniecaaGreatDoor
set_option maxRecDepth 100000

open Go.RowKit Go.Lib Go.Sort

def cmpNo (x y : Df) : Int := Lib.compareInt x.no y.no
theorem lt_no (x y : Df) : ltOf cmpNo x y = decide (x.no < y.no) := by
  unfold ltOf cmpNo Lib.compareInt
  by_cases h1 : x.no < y.no
  · simp [h1]
  · by_cases h2 : y.no < x.no <;> simp [h1, h2]
theorem swo_no : SWO (ltOf cmpNo) where
  irrefl x := by rw [lt_no]; simp
  trans x y z h1 h2 := by rw [lt_no] at *; simp at *; omega
  ntrans x y z h1 h2 := by rw [lt_no] at *; simp at *; omega
set_option maxHeartbeats 1000000 in
theorem compare_any (x y : Int) (w : World) : Calls Tryz.prog 83 #[.int .i64 x, .int .i64 y] w fun e w' => e = .returned (.int .i64 (Lib.compareInt x y)) ∧ w = w' := by
  have H : Hid (Lib.compareInt x y = if x < y then -1 else if y < x then 1 else 0) := Lib.hid rfl
  by_cases h1 : x < y
  · rw [if_pos h1] at H
    go_enter Tryz.func83, Tryz.ntmps83
    go_wp2
    go_ret
    exact ⟨ret_int H.out.symm, rfl⟩
  · rw [if_neg h1] at H
    by_cases h2 : y < x
    · rw [if_pos h2] at H
      go_enter Tryz.func83, Tryz.ntmps83
      go_wp2
      go_ret
      exact ⟨ret_int H.out.symm, rfl⟩
    · rw [if_neg h2] at H
      go_enter Tryz.func83, Tryz.ntmps83
      go_wp2
      go_ret
      exact ⟨ret_int H.out.symm, rfl⟩
set_option maxHeartbeats 1000000 in
theorem cmp_clo (x y : Df) (W : World) : Calls Tryz.prog 82 #[.agg (DC x).toArray, .agg (DC y).toArray] W fun e w' => e = .returned (.int .i64 (cmpNo x y)) ∧ ∃ q os', w' = grow (W.drewN q) os' := by
  have hcon := fun W' => compare_any x.no y.no W'
  unfold cmpNo DC
  generalize Lib.compareInt x.no y.no = r at hcon ⊢
  go_enter Tryz.func82, Tryz.ntmps82
  go_wp2_with (go_at_call 83; refine (hcon _).mono ?_; rintro e w' ⟨rfl, rfl⟩)
  go_ret
  exact ⟨rfl, 0, _, by rw [alloc_eq_grow, alloc_eq_grow, grow_grow]; rfl⟩
theorem DC_len (d : Df) : (DC d).length = 7 := rfl
theorem DC_one (d : Df) : ∀ v ∈ DC d, v.oneCell' = true := by
  intro v hv
  simp only [DC, List.mem_cons, List.not_mem_nil, or_false] at hv
  rcases hv with rfl | rfl | rfl | rfl | rfl | rfl | rfl <;> rfl
theorem flat_dfv (d : Array Df) : (flatK DC 7 d).toList = dfv d.toList := by
  apply List.ext_getElem?
  intro t
  by_cases ht : t < d.size * 7
  · have h1 := get_flatK DC 7 d t ht
    rw [getElem!_pos _ t (by rw [size_flatK]; exact ht)] at h1
    have h2 := dfv_get d.toList (t / 7) (t % 7) d[t / 7]! (by
      rw [getElem!_pos d (t / 7) (by omega), Array.getElem?_toList, Array.getElem?_eq_getElem (by omega)]) (Nat.mod_lt _ (by omega))
    rw [show t / 7 * 7 + t % 7 = t by omega] at h2
    rw [h2, Array.getElem?_toList, Array.getElem?_eq_getElem (by rw [size_flatK]; exact ht), h1]
    have h3 : t % 7 < (DC d[t / 7]!).length := by rw [DC_len]; exact Nat.mod_lt _ (by omega)
    rw [List.getElem?_eq_getElem h3, getElem!_pos (DC d[t / 7]!) (t % 7) h3]
  · rw [List.getElem?_eq_none (by rw [Array.length_toList, size_flatK]; omega), List.getElem?_eq_none (by rw [dfv_length, Array.length_toList]; omega)]
theorem holds_own {w : World} {g : Nat} {cur : Array Value} {t : TypeId} {l : List Df} (hh : w.heap[g]? = some (.cells cur t (0, 0))) (ht : cur.toList.take (l.length * 7) = dfv l) : HoldsK DC 7 w g 0 l.toArray := by
  intro j hj
  rw [size_flatK] at hj
  have hj' : j < l.length * 7 := by simpa using hj
  rw [Nat.zero_add]
  refine ⟨?_, heap_free hh j⟩
  rw [heap_cell hh j]
  have h1 : (flatK DC 7 l.toArray)[j]? = (dfv l)[j]? := by rw [← Array.getElem?_toList, flat_dfv]
  have h2 : cur[j]? = (dfv l)[j]? := by
    rw [← ht, List.getElem?_take_of_lt hj', Array.getElem?_toList]
  rw [h2, ← h1, getElem!_pos (flatK DC 7 l.toArray) j (by rw [size_flatK]; exact hj), Array.getElem?_eq_getElem (by rw [size_flatK]; exact hj)]
  rfl
theorem sorted_own {w : World} {g n : Nat} {cur : Array Value} {t : TypeId} {d : Array Df} {os : Array Obj} (hh : w.heap[g]? = some (.cells cur t (0, 0))) (hs : d.size * 7 ≤ cur.size) :
    ∃ cur', (sortWorldK DC 7 w g 0 n d os).heap[g]? = some (.cells cur' t (0, 0)) ∧ cur'.size = cur.size ∧ cur'.toList.take (d.size * 7) = dfv d.toList ∧ w.grownBy (sortWorldK DC 7 w g 0 n d os) (some g) := by
  have hlt := (Array.getElem?_eq_some_iff.1 hh).1
  refine ⟨putCells id 0 (flatK DC 7 d) cur, ?_, by simp [putCells], ?_, rfl, rfl, rfl, ?_, ?_⟩
  · unfold sortWorldK putRowK putRow mapBlock grow
    simp only
    rw [Array.getElem?_append_left (by simpa using hlt), Array.getElem?_modify, if_pos rfl]
    show Option.map _ w.heap[g]? = _
    rw [hh]
    rfl
  · rw [← flat_dfv]
    apply List.ext_getElem?
    intro k
    by_cases hk : k < d.size * 7
    · rw [List.getElem?_take_of_lt hk, Array.getElem?_toList, Array.getElem?_toList]
      unfold putCells
      rw [Array.getElem?_mapIdx, Array.getElem?_eq_getElem (by omega), Array.getElem?_eq_getElem (by rw [size_flatK]; exact hk)]
      simp only [Option.map_some]
      rw [if_pos (by rw [size_flatK]; omega), Nat.sub_zero, getElem!_pos _ k (by rw [size_flatK]; exact hk)]
      rfl
    · rw [List.getElem?_eq_none (by rw [List.length_take]; omega), List.getElem?_eq_none (by rw [Array.length_toList, size_flatK]; omega)]
  · unfold sortWorldK putRowK putRow mapBlock grow
    simp
  · intro i hi hne
    unfold sortWorldK putRowK putRow mapBlock grow
    simp only
    rw [Array.getElem?_append_left (by simpa using hi), Array.getElem?_modify, if_neg (fun e => hne (by rw [e]))]
    rfl
theorem sorted_is {l d : List Df} (hp : d.Perm l) (hd : l.Pairwise fun a b => a.no ≠ b.no) (hs : ∀ i j (hi : i < d.length) (hj : j < d.length), i < j → ¬ d[j].no < d[i].no) : d = sortF l := by
  refine rise_unique ?_ (sortF_rise hd) (hp.trans (sortF_perm l).symm)
  have h2 := (hp.pairwise_iff (R := fun a b : Df => a.no ≠ b.no) (fun hab => fun e => hab e.symm)).2 hd
  rw [List.pairwise_iff_getElem] at h2 ⊢
  intro i j hi hj hij
  have h3 := h2 i j hi hj hij
  have h4 := hs i j hi hj hij
  omega
theorem sort_any (base : Nat) (v : Value) (l : List Df) (w : World) (hown : w.ownsRow base 39 7 v l.length (dfv l)) (hd : l.Pairwise fun a b => a.no ≠ b.no) (hl : l.length ≤ 100000) :
    Calls Tryz.prog 81 #[v, .func (.func 82) #[] #[]] w fun e w' => e = .returned (.tuple #[]) ∧ w'.ownsRow base 39 7 v l.length (dfv (sortF l)) ∧ w.grownBy w' v.ownBlock := by
  have hown0 := hown
  obtain ⟨hlen, ⟨rfl, hn⟩ | ⟨g, cap, cur, rfl, hg, hh, hle, hmax, hsz, htake⟩⟩ := hown
  · refine (Tryz.slices_SortFunc_none (α := Df) none 0 _ w).mono ?_
    rintro e w' ⟨rfl, rfl⟩
    obtain rfl : l = [] := List.eq_nil_of_length_eq_zero hn
    exact ⟨rfl, hown0, World.grownBy.refl _ _⟩
  · have eg : ∀ args w, (callFunc 82 args).run Tryz.prog w = .ok (.enter 82 args) w := enters_of Tryz.func82 (by kernel_rfl) rfl
    have hcap : cap * 7 = cur.size := hsz.symm
    have hcon := Tryz.slices_SortFunc 7 Tryz.isAgg39 Tryz.sizeOf39 DC DC_len DC_one cmpNo swo_no 82 #[] g 0 cap l.toArray w eg (fun _ _ _ _ x y => cmp_clo x y _) (holds_own hh htake) (Array.getElem?_eq_some_iff.1 hh).1 (by simp; omega)
    rw [show l.toArray.size = l.length by simp] at hcon
    refine hcon.mono ?_
    rintro e w' ⟨rfl, d', n, os, hp, hs, rfl⟩
    have hsize : d'.size = l.length := by have := hp.1; simpa using this
    have hperm : d'.toList.Perm l := by
      have h3 := hp.2.2
      rw [show l.length = d'.size from hsize.symm, Array.extract_size] at h3
      have e2 : (l.toArray.extract 0 d'.size) = l.toArray := by
        rw [hsize, show l.length = l.toArray.size by simp, Array.extract_size]
      rw [e2] at h3
      simpa using h3
    have hsort : d'.toList = sortF l := by
      refine sorted_is hperm hd fun i j hi hj hij => ?_
      rw [Array.length_toList] at hi hj
      have := hs i j (Nat.zero_le _) hij (by omega)
      rw [lt_no, getElem!_pos d' j hj, getElem!_pos d' i hi] at this
      simpa using this
    obtain ⟨cur', r1, r2, r3, r4⟩ := sorted_own (n := n) (d := d') (os := os) hh (by rw [hsize]; omega)
    rw [hsize, hsort] at r3
    refine ⟨rfl, ⟨?_, .inr ⟨g, cap, cur', rfl, hg, r1, hle, hmax, by rw [r2]; exact hsz, r3⟩⟩, r4⟩
    rw [dfv_length, (sortF_perm l).length_eq]
end Go.Proofs.YtciiemomfniecaaGreatDoor
