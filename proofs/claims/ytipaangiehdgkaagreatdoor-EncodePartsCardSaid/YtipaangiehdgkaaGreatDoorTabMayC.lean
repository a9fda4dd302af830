/-
  Some are dropped: the contracts.
-/
import Derived.Test.YtipaangiehdgkaaGreatDoorTabSets
import Derived.Test.YtipaangiehdgkaaGreatDoorTokRefs
import Derived.Deep.RegionHeld3
import Derived.Great.BuildSlice
import Derived.StillTailTactics
namespace Go.Proofs.YtipaangiehdgkaaGreatDoor
set_option maxRecDepth 100000

open Go.RowKit Go.Maps

/-! ### Some are dropped -/

theorem drop_next {α : Type} [DecidableEq α] [BEq α] [LawfulBEq α] {p : α → Bool} {l : List α} {k : Nat} {x : α} (h : l[k]? = some x) : (fun y => (p y && !(l.take k).contains y) && decide (y ≠ x)) = fun y => p y && !(l.take (k + 1)).contains y := by
  funext y
  rw [List.take_add_one, h]
  by_cases hy : y = x
  · subst hy; simp
  · simp [hy]
theorem Sl.kept {w w' : World} {A : Option Addr} {n c size : Nat} {xs : List Value} {B b : Nat} (h : Sl w A n c size xs) (hA : ∀ ad, A = some ad → 0 < n → ad.block < B) (hB : B ≤ b) (hg : w.grownBy w' (some b)) : Sl w' A n c size xs := by
  refine ⟨h.len, h.le, h.cap, h.nil, fun ad ha hn => Nat.lt_of_lt_of_le (h.old ad ha hn) hg.size, fun ad ha k u hu => ?_⟩
  have hn : 0 < n := by
    rcases Nat.eq_zero_or_pos n with h0 | h0
    · have := h.len
      rw [h0, Nat.zero_mul] at this
      rw [List.eq_nil_of_length_eq_zero this] at hu
      simp at hu
    · exact h0
  have hk : w'.heap[(ad.add k).block]? = w.heap[(ad.add k).block]? := by
    rw [add_same_block]
    refine hg.block _ (h.old ad ha hn) (fun e => ?_)
    have := hA ad ha hn
    injection e with e
    omega
  exact (World.cell?_of_block hk).trans (h.cell ad ha k u hu)
theorem Rb.kept {w w' : World} {v : Value} {n size : Nat} {xs : List Value} {B b : Nat} (h : Rb B w v n size xs) (hB : B ≤ b) (hg : w.grownBy w' (some b)) : Rb B w' v n size xs := by
  obtain ⟨A, c, rfl, h1, h2⟩ := h
  exact ⟨A, c, rfl, h1.kept h2 hB hg, h2⟩
end Go.Proofs.YtipaangiehdgkaaGreatDoor
/-
  Sets that are made of lists: the contracts.
-/
namespace Go.Proofs.YtipaangiehdgkaaGreatDoor
set_option maxRecDepth 100000

open Go.RowKit Go.Maps

/-- Lists of names, one slice each, below B. -/
def LsS (B : Nat) (w : World) (ls : List (List (List UInt8))) (vs : List Value) : Prop := ∀ (k : Nat) l, ls[k]? = some l → ∃ A c, vs[k]? = some (Value.slice A l.length c) ∧ Sl w A l.length c 1 (strv l) ∧ ∀ ad, A = some ad → 0 < l.length → ad.block < B
def LsI (B : Nat) (w : World) (ls : List (List Int)) (vs : List Value) : Prop := ∀ (k : Nat) l, ls[k]? = some l → ∃ A c, vs[k]? = some (Value.slice A l.length c) ∧ Sl w A l.length c 1 (intv l) ∧ ∀ ad, A = some ad → 0 < l.length → ad.block < B
theorem put_next {α : Type} [DecidableEq α] [BEq α] [LawfulBEq α] {p : α → Bool} {l : List α} {k : Nat} {x : α} (h : l[k]? = some x) : (fun y => (p y || (l.take k).contains y) || decide (y = x)) = fun y => p y || (l.take (k + 1)).contains y := by
  funext y
  rw [List.take_add_one, h]
  by_cases hy : y = x
  · subst hy; simp
  · simp [hy]
theorem flat_next {α : Type} [BEq α] [LawfulBEq α] {ls : List (List α)} {k : Nat} {l : List α} (h : ls[k]? = some l) : (fun y => (ls.take k).flatten.contains y || l.contains y) = fun y => (ls.take (k + 1)).flatten.contains y := by
  funext y
  rw [List.take_add_one, h]
  simp
theorem flats_len {α : Type} {ls : List (List α)} {k : Nat} {l : List α} (h : ls[k]? = some l) : (ls.take (k + 1)).flatten.length = (ls.take k).flatten.length + l.length := by
  rw [List.take_add_one, h]
  simp
theorem flats_le {α : Type} (ls : List (List α)) (k : Nat) : (ls.take k).flatten.length ≤ ls.flatten.length := by
  conv => rhs; rw [← List.take_append_drop k ls, List.flatten_append, List.length_append]
  omega
set_option maxRecDepth 1000000 in
set_option maxHeartbeats 2000000 in
theorem freeOfS_any (A : Option Addr) (c : Nat) (ls : List (List (List UInt8))) (vs : List Value) (w : World) (hs : Sl w A ls.length c 1 vs) (hv : LsS w.heap.size w ls vs) (hn : ls.flatten.length ≤ 100000) (hx : ∀ l ∈ ls, ∀ x ∈ l, x.length ≤ maxLen) (hl : ls.length ≤ 1000) :
    Calls Tryz.prog 130 #[.slice A ls.length c] w fun e w' => e = .returned (.map (some w.heap.size)) ∧ FreeS w' w.heap.size ls.flatten.length (fun y => ls.flatten.contains y) ∧ Below w.heap.size w w' := by
  have HS := Lib.hid hs
  have HV := Lib.hid hv
  have HX := Lib.hid hx
  have HLE := Lib.hid (flats_le ls)
  clear hs hv hx
  have hmm := @run_makeMap Tryz.prog
  go_enter Tryz.func130, Tryz.ntmps130
  go_wp2
  go_loopw [11] (fun i wr => ∃ k : Nat, i = .int .i64 k ∧ k ≤ ls.length ∧ FreeS wr w.heap.size (ls.take k).flatten.length (fun y => (ls.take k).flatten.contains y) ∧ Below w.heap.size w wr) (fun i _ => ls.length - (intOf i).toNat)
  case atStart => exact ⟨0, rfl, by omega, Free.made w, below_new w _⟩
  case round =>
    obtain ⟨k, rfl, hk, hm, hb⟩ := hrel
    by_cases hlt : k < ls.length
    · obtain ⟨l, hl0⟩ : ∃ l, ls[k]? = some l := ⟨_, List.getElem?_eq_getElem hlt⟩
      obtain ⟨Al, cl, hvk, hsl, hAl⟩ := HV.out k l hl0
      obtain ⟨ad, rfl, hab, hc⟩ := Sl.there (HS.out.on hb) (by omega)
      have hck := hc k _ hvk
      have HN := Lib.hid (flat_next hl0)
      have HLN := Lib.hid (flats_len hl0)
      have HXl := Lib.hid (HX.out l (List.mem_of_getElem? hl0))
      have HSL := Lib.hid hsl
      have hll : (ls.take k).flatten.length + l.length ≤ 100000 := by
        have h1 := HLN.out
        have h2 := HLE.out (k + 1)
        omega
      generalize (ls.take k).flatten = F at *
      clear hvk hc hsl hl0
      go_wp2
      go_loopw [17] (fun i wy => ∃ j : Nat, i = .int .i64 j ∧ j ≤ l.length ∧ FreeS wy w.heap.size (F.length + j) (fun y => F.contains y || (l.take j).contains y) ∧ Below w.heap.size w wy) (fun i _ => l.length - (intOf i).toNat)
      case atStart => exact ⟨0, rfl, by omega, hm.eq (by funext y; simp), hb⟩
      case round =>
        obtain ⟨j, rfl, hj, hm, hb⟩ := hrel
        by_cases hlt2 : j < l.length
        · obtain ⟨x, hx⟩ : ∃ x, l[j]? = some x := ⟨_, List.getElem?_eq_getElem hlt2⟩
          obtain ⟨ad2, rfl, hab2, hc2⟩ := strr_at (HSL.out.on hb) hx
          have hxl := HXl.out x (List.mem_of_getElem? hx)
          have HP := Lib.hid (put_next (p := fun y => F.contains y) hx)
          clear hx
          go_wp2_with (at_mapUpdate; refine wpList_free_put rfl _ _ _ 138 175 rfl kS_law Tryz.underlying138 kS_inj kS_lit w.heap.size _ _ rfl hm (by omega) _ x rfl rfl (kS_key hxl) ?_; intro w3 h3 hg3)
          exact ⟨⟨j + 1, by go_num, by omega, h3.eq HP.out, hb.grown hg3 hb.size (fun q hq => by injection hq with hq; omega)⟩, by simp [intOf]; omega⟩
        · obtain rfl : j = l.length := by omega
          rw [List.take_length] at hm
          go_wp2
          exact ⟨⟨k + 1, by go_num, by omega, by rw [HLN.out]; exact hm.eq HN.out, hb⟩, by simp [intOf]; omega⟩
    · obtain rfl : k = ls.length := by omega
      rw [List.take_length] at hm
      go_wp2
      go_ret
      exact ⟨rfl, hm, hb⟩
set_option maxRecDepth 1000000 in
set_option maxHeartbeats 2000000 in
theorem freeOfI_any (A : Option Addr) (c : Nat) (ls : List (List Int)) (vs : List Value) (w : World) (hs : Sl w A ls.length c 1 vs) (hv : LsI w.heap.size w ls vs) (hn : ls.flatten.length ≤ 100000) (hx : ∀ l ∈ ls, ∀ x ∈ l, inr x) (hl : ls.length ≤ 1000) :
    Calls Tryz.prog 164 #[.slice A ls.length c] w fun e w' => e = .returned (.map (some w.heap.size)) ∧ FreeI w' w.heap.size ls.flatten.length (fun y => ls.flatten.contains y) ∧ Below w.heap.size w w' := by
  have HS := Lib.hid hs
  have HV := Lib.hid hv
  have HX := Lib.hid hx
  have HLE := Lib.hid (flats_le ls)
  clear hs hv hx
  have hmm := @run_makeMap Tryz.prog
  go_enter Tryz.func164, Tryz.ntmps164
  go_wp2
  go_loopw [11] (fun i wr => ∃ k : Nat, i = .int .i64 k ∧ k ≤ ls.length ∧ FreeI wr w.heap.size (ls.take k).flatten.length (fun y => (ls.take k).flatten.contains y) ∧ Below w.heap.size w wr) (fun i _ => ls.length - (intOf i).toNat)
  case atStart => exact ⟨0, rfl, by omega, Free.made w, below_new w _⟩
  case round =>
    obtain ⟨k, rfl, hk, hm, hb⟩ := hrel
    by_cases hlt : k < ls.length
    · obtain ⟨l, hl0⟩ : ∃ l, ls[k]? = some l := ⟨_, List.getElem?_eq_getElem hlt⟩
      obtain ⟨Al, cl, hvk, hsl, hAl⟩ := HV.out k l hl0
      obtain ⟨ad, rfl, hab, hc⟩ := Sl.there (HS.out.on hb) (by omega)
      have hck := hc k _ hvk
      have HN := Lib.hid (flat_next hl0)
      have HLN := Lib.hid (flats_len hl0)
      have HXl := Lib.hid (HX.out l (List.mem_of_getElem? hl0))
      have HSL := Lib.hid hsl
      have hll : (ls.take k).flatten.length + l.length ≤ 100000 := by
        have h1 := HLN.out
        have h2 := HLE.out (k + 1)
        omega
      generalize (ls.take k).flatten = F at *
      clear hvk hc hsl hl0
      go_wp2
      go_loopw [17] (fun i wy => ∃ j : Nat, i = .int .i64 j ∧ j ≤ l.length ∧ FreeI wy w.heap.size (F.length + j) (fun y => F.contains y || (l.take j).contains y) ∧ Below w.heap.size w wy) (fun i _ => l.length - (intOf i).toNat)
      case atStart => exact ⟨0, rfl, by omega, hm.eq (by funext y; simp), hb⟩
      case round =>
        obtain ⟨j, rfl, hj, hm, hb⟩ := hrel
        by_cases hlt2 : j < l.length
        · obtain ⟨x, hx⟩ : ∃ x, l[j]? = some x := ⟨_, List.getElem?_eq_getElem hlt2⟩
          obtain ⟨ad2, rfl, hab2, hc2⟩ := intr_at (HSL.out.on hb) hx
          have hxl := HXl.out x (List.mem_of_getElem? hx)
          have HP := Lib.hid (put_next (p := fun y => F.contains y) hx)
          clear hx
          go_wp2_with (at_mapUpdate; refine wpList_free_put rfl _ _ _ 214 175 rfl kI_law Tryz.underlying214 kI_inj kI_lit w.heap.size _ _ rfl hm (by omega) _ x rfl rfl (kI_key hxl) ?_; intro w3 h3 hg3)
          exact ⟨⟨j + 1, by go_num, by omega, h3.eq HP.out, hb.grown hg3 hb.size (fun q hq => by injection hq with hq; omega)⟩, by simp [intOf]; omega⟩
        · obtain rfl : j = l.length := by omega
          rw [List.take_length] at hm
          go_wp2
          exact ⟨⟨k + 1, by go_num, by omega, by rw [HLN.out]; exact hm.eq HN.out, hb⟩, by simp [intOf]; omega⟩
    · obtain rfl : k = ls.length := by omega
      rw [List.take_length] at hm
      go_wp2
      go_ret
      exact ⟨rfl, hm, hb⟩
theorem drop_nextP {p : List UInt8 → Bool} {k : Nat} {q : List UInt8 × Nat} (h : plainsL[k]? = some q) : (fun y => (p y && !((plainsL.map (·.1)).take k).contains y) && decide (y ≠ q.1)) = fun y => p y && !((plainsL.map (·.1)).take (k + 1)).contains y :=
  drop_next (l := plainsL.map (·.1)) (by rw [List.getElem?_map, h]; rfl)
theorem plain_short {k : Nat} {q : List UInt8 × Nat} (h : plainsL[k]? = some q) : q.1.length ≤ maxLen := by
  have : ∀ q ∈ plainsL, q.1.length ≤ 8 := by decide
  have := this q (List.mem_of_getElem? h)
  unfold maxLen
  omega
set_option maxRecDepth 1000000 in
set_option maxHeartbeats 2000000 in
theorem typeNames_any (v1 v2 : Value) (l1 l2 : List (List UInt8)) (w : World) (T : Tabs w) (h1 : Rb w.heap.size w v1 l1.length 1 (strv l1)) (h2 : Rb w.heap.size w v2 l2.length 1 (strv l2)) (hn : l1.length + l2.length ≤ 100000) (hx : ∀ x ∈ l1 ++ l2, x.length ≤ maxLen) :
    Calls Tryz.prog 81 #[v1, v2] w fun e w' => ∃ b, e = .returned (.map (some b)) ∧ w.heap.size ≤ b ∧ FreeS w' b (l1.length + l2.length) (stillT (l1 ++ l2) 0) ∧ Below w.heap.size w w' := by
  obtain ⟨A1, c1, rfl, s1, a1⟩ := h1
  obtain ⟨A2, c2, rfl, s2, a2⟩ := h2
  have hbw := below_new w (.cells #[.slice A1 l1.length c1, .slice A2 l2.length c2] 96)
  have hF := freeOfS_any (some ⟨w.heap.size, 0, none⟩) 2 [l1, l2] [.slice A1 l1.length c1, .slice A2 l2.length c2] (w.alloc (.cells #[.slice A1 l1.length c1, .slice A2 l2.length c2] 96)) (Sl.new w [.slice A1 l1.length c1, .slice A2 l2.length c2] _ (by unfold maxLen; simp)) (by
    intro k l hk
    match k, hk with
    | 0, hk =>
      obtain rfl : l1 = l := by simpa using hk
      exact ⟨A1, c1, rfl, s1.on hbw, fun ad ha hp => Nat.lt_of_lt_of_le (a1 ad ha hp) hbw.size⟩
    | 1, hk =>
      obtain rfl : l2 = l := by simpa using hk
      exact ⟨A2, c2, rfl, s2.on hbw, fun ad ha hp => Nat.lt_of_lt_of_le (a2 ad ha hp) hbw.size⟩
    | k + 2, hk => simp at hk) (by simpa using hn) (by
    intro l hl x hxl
    refine hx x (List.mem_append.2 ?_)
    rcases List.mem_cons.1 hl with rfl | hl
    · exact .inl hxl
    · obtain rfl : l = l2 := by simpa using hl
      exact .inr hxl) (by simp)
  have HF := Lib.hid hF
  have HST := Lib.hid (still_start (l1 ++ l2) (plainsL.map (·.1)))
  clear hF s1 s2 a1 a2 hx
  have HBW := Lib.hid hbw
  have HT := Lib.hid (T.on hbw)
  clear hbw T
  go_enter Tryz.func81, Tryz.ntmps81
  go_wp2_with (first
    | (go_at_call 130; refine HF.out.mono ?_; rintro e w2 ⟨rfl, hm2, hb2⟩; obtain ⟨tt, fr, hT⟩ := (HT.out.on hb2).plains)
    | (refine wpList_load_row rfl 174 _ rfl 0 rfl tt _ fr _ hT Tryz.underlying174 rfl (by kernel_rfl) ?_))
  have hbb : Below w.heap.size w w2 := HBW.out.trans (hb2.mono HBW.out.size)
  have hm3 : FreeS w2 (w.heap.size + 1) (l1.length + l2.length) (fun y => (l1 ++ l2).contains y) := by
    have e : (w.alloc (.cells #[.slice A1 l1.length c1, .slice A2 l2.length c2] 96)).heap.size = w.heap.size + 1 := by simp
    rw [e] at hm2
    have e2 : [l1, l2].flatten = l1 ++ l2 := by simp
    rw [e2] at hm2
    exact hm2.mono (by simp)
  clear hm2 hb2 hT
  go_loopw [13] (fun i wr => ∃ k : Nat, i = .int .i64 k ∧ k ≤ 8 ∧ FreeS wr (w.heap.size + 1) (l1.length + l2.length) (fun y => (l1 ++ l2).contains y && !((plainsL.map (·.1)).take k).contains y) ∧ Below w.heap.size w wr) (fun i _ => 8 - (intOf i).toNat)
  case atStart => exact ⟨0, rfl, by omega, hm3.eq (by funext y; simp), hbb⟩
  case round =>
    obtain ⟨k, rfl, hk, hm, hb⟩ := hrel
    by_cases hlt : k < 8
    · obtain ⟨q, hq⟩ : ∃ q, plainsL[k]? = some q := ⟨_, List.getElem?_eq_getElem hlt⟩
      have hi := index_plain wr hq
      have hql := plain_short hq
      have HN := Lib.hid (drop_nextP (p := fun y => (l1 ++ l2).contains y) hq)
      clear hq
      go_wp2_with (at_delete; refine wpList_free_del rfl _ _ 138 175 rfl kS_law Tryz.underlying138 kS_inj (w.heap.size + 1) _ _ rfl (hm.alloc _) _ q.1 rfl (kS_key hql) ?_; intro w3 h3 hg3)
      exact ⟨⟨k + 1, by go_num, by omega, h3.eq HN.out, (below_lit hb _).grown hg3 (by have := hb.size; simp; omega) (fun j hj => by injection hj with hj; omega)⟩, by simp [intOf]; omega⟩
    · obtain rfl : k = 8 := by omega
      go_wp2
      go_ret
      refine ⟨w.heap.size + 1, rfl, by omega, hm.eq ?_, hb⟩
      unfold stillT
      rw [HST.out]
      rfl
end Go.Proofs.YtipaangiehdgkaaGreatDoor
/-
  What is told of each element of a list: the contracts of the nine instances of one function.
-/
namespace Go.Proofs.YtipaangiehdgkaaGreatDoor
set_option maxRecDepth 100000

open Go.RowKit

theorem strv_next {α : Type} (g : α → List UInt8) {l : List α} {k : Nat} {x : α} (h : l[k]? = some x) : strv ((l.take k).map g) ++ [.string (txt (g x))] = strv ((l.take (k + 1)).map g) := by
  rw [List.take_add_one, h]; simp [strv]
theorem intv_next {α : Type} (g : α → Int) {l : List α} {k : Nat} {x : α} (h : l[k]? = some x) : intv ((l.take k).map g) ++ [.int .i64 (g x)] = intv ((l.take (k + 1)).map g) := by
  rw [List.take_add_one, h]; simp [intv]
theorem clo_eachMd_any (m : Md) (a1 : Option Addr) (n1 k1 : Nat) (w : World) : Calls Tryz.prog 83 #[.agg #[.string (txt m.name), .slice a1 n1 k1]] w fun e w' => e = .returned (.string (txt m.name)) ∧ w' = w.alloc (.cells #[.string (txt m.name), .slice a1 n1 k1] 66) := by
  go_enter Tryz.func83, Tryz.ntmps83
  go_wp2
  go_ret
  exact ⟨rfl, rfl⟩
set_option maxRecDepth 1000000 in
set_option maxHeartbeats 2000000 in
theorem eachMd_any (B : Nat) (v : Value) (xs : List Value) (l : List Md) (hl : l.length ≤ 100000) (w : World) (hB : B ≤ w.heap.size) (hr : Rb B w v l.length 2 xs) (ha : MdsAt B w l xs) :
    Calls Tryz.prog 82 #[v, .func (.func 83) #[] #[]] w fun e w' => ∃ v', e = .returned v' ∧ w'.ownsRow w.heap.size 9 1 v' l.length (strv (l.map (·.name))) ∧ Below w.heap.size w w' := by
  obtain ⟨A, c, rfl, hs, hA⟩ := hr
  obtain ⟨i0, hi, hz0, hz1, hz2⟩ := info_parts infoStrs
  have HS := Lib.hid hs
  have HA := Lib.hid ha
  clear hs ha
  go_enter Tryz.func82, Tryz.ntmps82
  go_wp2_with (at_make; refine wpList_make_own _ rfl _ _ 96 rfl w.heap.size 9 i0 _ 1 Tryz.underlying96 hi hz0 hz1 _ _ _ l.length rfl rfl rfl (by rw [hz2]; omega) (by unfold maxLen; omega) (Nat.le_refl _) ?_; intro w1 hown1 hg1)
  have hb1 : Below w.heap.size w w1 := (Below.refl w.heap.size w).grown hg1 (Nat.le_refl _) (fun k hk => by cases hk)
  go_loopw [5, 13] (fun o i wr => ∃ k : Nat, i = .int .i64 k ∧ k ≤ l.length ∧ wr.ownsRow w.heap.size 9 1 o k (strv ((l.take k).map (·.name))) ∧ Below w.heap.size w wr) (fun _ i _ => l.length - (intOf i).toNat)
  case atStart => exact ⟨0, rfl, by omega, hown1, hb1⟩
  case round =>
    obtain ⟨k, rfl, hk, hown, hb⟩ := hrel
    by_cases hlt : k < l.length
    · obtain ⟨m, hm⟩ : ∃ m, l[k]? = some m := ⟨_, List.getElem?_eq_getElem hlt⟩
      obtain ⟨ad, vF, rfl, _, hmr, c0, c1⟩ := mdr_at (HS.out.low hA (Low.below hb hB)) (HA.out.low (Low.below hb hB)) hm
      obtain ⟨_, _, rfl, -, -⟩ := hmr
      have HN := Lib.hid (strv_next (·.name) hm)
      clear hm
      go_wp2_with (first
        | (at_builtin; refine wpList_app1 rfl _ _ 96 rfl w.heap.size 9 i0 _ 16 Tryz.underlying96 hi hz0 hz1 hz2 rfl _ k _ rfl (((hown.alloc _).alloc _).alloc _) _ 1 (.string (txt m.name)) rfl (World.cell?_alloc_at _ _ _ _ (by simp)) rfl (by unfold maxLen; omega) (by omega) (by have := hb.size; simp; omega) ?_; intro v3 w3 hown3 hg3)
        | (go_at_call 83; refine (clo_eachMd_any m _ _ _ _).mono ?_; rintro e w2 ⟨rfl, rfl⟩))
      rw [HN.out] at hown3
      exact ⟨⟨k + 1, by go_num, by omega, hown3, (below_lit (below_lit (below_lit hb _) _) _).grown hg3 (by have := hb.size; simp; omega) (own_ge hown)⟩, by simp [intOf]; omega⟩
    · obtain rfl : k = l.length := by omega
      rw [List.take_length] at hown
      go_wp2
      go_ret
      exact ⟨_, rfl, hown, hb⟩
theorem clo_eachEd_any (m : Ed) (a1 : Option Addr) (n1 k1 : Nat) (a2 : Option Addr) (n2 k2 : Nat) (w : World) : Calls Tryz.prog 85 #[.agg #[.string (txt m.name), .slice a1 n1 k1, .slice a2 n2 k2]] w fun e w' => e = .returned (.string (txt m.name)) ∧ w' = w.alloc (.cells #[.string (txt m.name), .slice a1 n1 k1, .slice a2 n2 k2] 98) := by
  go_enter Tryz.func85, Tryz.ntmps85
  go_wp2
  go_ret
  exact ⟨rfl, rfl⟩
set_option maxRecDepth 1000000 in
set_option maxHeartbeats 2000000 in
theorem eachEd_any (B : Nat) (v : Value) (xs : List Value) (l : List Ed) (hl : l.length ≤ 100000) (w : World) (hB : B ≤ w.heap.size) (hr : Rb B w v l.length 3 xs) (ha : EdsAt B w l xs) :
    Calls Tryz.prog 84 #[v, .func (.func 85) #[] #[]] w fun e w' => ∃ v', e = .returned v' ∧ w'.ownsRow w.heap.size 9 1 v' l.length (strv (l.map (·.name))) ∧ Below w.heap.size w w' := by
  obtain ⟨A, c, rfl, hs, hA⟩ := hr
  obtain ⟨i0, hi, hz0, hz1, hz2⟩ := info_parts infoStrs
  have HS := Lib.hid hs
  have HA := Lib.hid ha
  clear hs ha
  go_enter Tryz.func84, Tryz.ntmps84
  go_wp2_with (at_make; refine wpList_make_own _ rfl _ _ 96 rfl w.heap.size 9 i0 _ 1 Tryz.underlying96 hi hz0 hz1 _ _ _ l.length rfl rfl rfl (by rw [hz2]; omega) (by unfold maxLen; omega) (Nat.le_refl _) ?_; intro w1 hown1 hg1)
  have hb1 : Below w.heap.size w w1 := (Below.refl w.heap.size w).grown hg1 (Nat.le_refl _) (fun k hk => by cases hk)
  go_loopw [5, 13] (fun o i wr => ∃ k : Nat, i = .int .i64 k ∧ k ≤ l.length ∧ wr.ownsRow w.heap.size 9 1 o k (strv ((l.take k).map (·.name))) ∧ Below w.heap.size w wr) (fun _ i _ => l.length - (intOf i).toNat)
  case atStart => exact ⟨0, rfl, by omega, hown1, hb1⟩
  case round =>
    obtain ⟨k, rfl, hk, hown, hb⟩ := hrel
    by_cases hlt : k < l.length
    · obtain ⟨m, hm⟩ : ∃ m, l[k]? = some m := ⟨_, List.getElem?_eq_getElem hlt⟩
      obtain ⟨ad, vV, vN, rfl, _, hmr, hms, c0, c1, c2⟩ := edr_at (HS.out.low hA (Low.below hb hB)) (HA.out.low (Low.below hb hB)) hm
      obtain ⟨_, _, rfl, -, -⟩ := hmr
      obtain ⟨_, _, rfl, -, -⟩ := hms
      have HN := Lib.hid (strv_next (·.name) hm)
      clear hm
      go_wp2_with (first
        | (at_builtin; refine wpList_app1 rfl _ _ 96 rfl w.heap.size 9 i0 _ 16 Tryz.underlying96 hi hz0 hz1 hz2 rfl _ k _ rfl (((hown.alloc _).alloc _).alloc _) _ 1 (.string (txt m.name)) rfl (World.cell?_alloc_at _ _ _ _ (by simp)) rfl (by unfold maxLen; omega) (by omega) (by have := hb.size; simp; omega) ?_; intro v3 w3 hown3 hg3)
        | (go_at_call 85; refine (clo_eachEd_any m _ _ _ _ _ _ _).mono ?_; rintro e w2 ⟨rfl, rfl⟩))
      rw [HN.out] at hown3
      exact ⟨⟨k + 1, by go_num, by omega, hown3, (below_lit (below_lit (below_lit hb _) _) _).grown hg3 (by have := hb.size; simp; omega) (own_ge hown)⟩, by simp [intOf]; omega⟩
    · obtain rfl : k = l.length := by omega
      rw [List.take_length] at hown
      go_wp2
      go_ret
      exact ⟨_, rfl, hown, hb⟩
theorem clo_eachDf_any (m : Df) (w : World) : Calls Tryz.prog 132 #[.agg #[.int .i64 m.no, .string (txt m.name), .int .i64 m.kind, .int .i64 m.ref, .bool m.rep, .int .i64 m.key, .int .i64 m.one]] w fun e w' => e = .returned (.string (txt m.name)) ∧ w' = w.alloc (.cells #[.int .i64 m.no, .string (txt m.name), .int .i64 m.kind, .int .i64 m.ref, .bool m.rep, .int .i64 m.key, .int .i64 m.one] 53) := by
  go_enter Tryz.func132, Tryz.ntmps132
  go_wp2
  go_ret
  exact ⟨rfl, rfl⟩
set_option maxRecDepth 1000000 in
set_option maxHeartbeats 2000000 in
theorem eachDf_any (B : Nat) (v : Value) (l : List Df) (hl : l.length ≤ 100000) (w : World) (hB : B ≤ w.heap.size) (hr : Rb B w v l.length 7 (dfv l)) :
    Calls Tryz.prog 131 #[v, .func (.func 132) #[] #[]] w fun e w' => ∃ v', e = .returned v' ∧ w'.ownsRow w.heap.size 9 1 v' l.length (strv (l.map (·.name))) ∧ Below w.heap.size w w' := by
  obtain ⟨A, c, rfl, hs, hA⟩ := hr
  obtain ⟨i0, hi, hz0, hz1, hz2⟩ := info_parts infoStrs
  have HS := Lib.hid hs
  clear hs
  go_enter Tryz.func131, Tryz.ntmps131
  go_wp2_with (at_make; refine wpList_make_own _ rfl _ _ 96 rfl w.heap.size 9 i0 _ 1 Tryz.underlying96 hi hz0 hz1 _ _ _ l.length rfl rfl rfl (by rw [hz2]; omega) (by unfold maxLen; omega) (Nat.le_refl _) ?_; intro w1 hown1 hg1)
  have hb1 : Below w.heap.size w w1 := (Below.refl w.heap.size w).grown hg1 (Nat.le_refl _) (fun k hk => by cases hk)
  go_loopw [5, 13] (fun o i wr => ∃ k : Nat, i = .int .i64 k ∧ k ≤ l.length ∧ wr.ownsRow w.heap.size 9 1 o k (strv ((l.take k).map (·.name))) ∧ Below w.heap.size w wr) (fun _ i _ => l.length - (intOf i).toNat)
  case atStart => exact ⟨0, rfl, by omega, hown1, hb1⟩
  case round =>
    obtain ⟨k, rfl, hk, hown, hb⟩ := hrel
    by_cases hlt : k < l.length
    · obtain ⟨m, hm⟩ : ∃ m, l[k]? = some m := ⟨_, List.getElem?_eq_getElem hlt⟩
      obtain ⟨ad, rfl, _, c0, c1, c2, c3, c4, c5, c6⟩ := dfr_at (HS.out.low hA (Low.below hb hB)) hm
      have HN := Lib.hid (strv_next (·.name) hm)
      clear hm
      go_wp2_with (first
        | (at_builtin; refine wpList_app1 rfl _ _ 96 rfl w.heap.size 9 i0 _ 16 Tryz.underlying96 hi hz0 hz1 hz2 rfl _ k _ rfl (((hown.alloc _).alloc _).alloc _) _ 1 (.string (txt m.name)) rfl (World.cell?_alloc_at _ _ _ _ (by simp)) rfl (by unfold maxLen; omega) (by omega) (by have := hb.size; simp; omega) ?_; intro v3 w3 hown3 hg3)
        | (go_at_call 132; refine (clo_eachDf_any m _).mono ?_; rintro e w2 ⟨rfl, rfl⟩))
      rw [HN.out] at hown3
      exact ⟨⟨k + 1, by go_num, by omega, hown3, (below_lit (below_lit (below_lit hb _) _) _).grown hg3 (by have := hb.size; simp; omega) (own_ge hown)⟩, by simp [intOf]; omega⟩
    · obtain rfl : k = l.length := by omega
      rw [List.take_length] at hown
      go_wp2
      go_ret
      exact ⟨_, rfl, hown, hb⟩
end Go.Proofs.YtipaangiehdgkaaGreatDoor
/-
  What is wrong with a message, or an enum, ahead of all that stands in it: the contract.
-/
namespace Go.Proofs.YtipaangiehdgkaaGreatDoor
set_option maxRecDepth 100000

open Go.RowKit Go.Maps

theorem box_kept {w w' : World} {g b : Nat} {o : Obj} (h : w.heap[g]? = some o) (hg : w.grownBy w' (some b)) (hne : g ≠ b) : w'.heap[g]? = some o :=
  (hg.block g (Array.getElem?_eq_some_iff.1 h).1 (fun e => hne (by injection e))).trans h
theorem box2 {w : World} {g : Nat} {a b : Value} {t : TypeId} (h : w.heap[g]? = some (.cells #[a, b] t (0, 0))) : w.heap[g]? = some (.cells #[a, b] t (0, 0)) ∧ w.cell? ⟨g, 0, none⟩ = some a ∧ w.cell? ⟨g, 1, none⟩ = some b :=
  ⟨h, by rw [heap_cell h 0]; rfl, by rw [heap_cell h 1]; rfl⟩
theorem box2_below {w w' : World} {g : Nat} {a b : Value} {t : TypeId} (hb : Below w.heap.size w w') (h : w.heap[g]? = some (.cells #[a, b] t (0, 0)) ∧ w.cell? ⟨g, 0, none⟩ = some a ∧ w.cell? ⟨g, 1, none⟩ = some b) : w'.heap[g]? = some (.cells #[a, b] t (0, 0)) ∧ w'.cell? ⟨g, 0, none⟩ = some a ∧ w'.cell? ⟨g, 1, none⟩ = some b :=
  box2 ((hb.block g (Array.getElem?_eq_some_iff.1 h.1).1).trans h.1)
theorem hd_ms {f : Fl} {k : Nat} {m : Ms} (hm : f.M[k]? = some m) : (namesF f)[k]? = some m.name ∧ hdAt f k = m.at_ ∧ hdLong f k = (decide (30 < m.F.length) || decide (30 < m.ones.length)) := by
  have hlt := (List.getElem?_eq_some_iff.1 hm).1
  refine ⟨?_, ?_, ?_⟩
  · unfold namesF
    rw [List.getElem?_append_left (by simpa using hlt), List.getElem?_map, hm]; rfl
  · unfold hdAt; rw [if_pos hlt, hm]; rfl
  · unfold hdLong; rw [if_pos hlt, hm]; rfl
theorem hd_en {f : Fl} {k : Nat} {e : En} (he : f.E[k]? = some e) : (namesF f)[f.M.length + k]? = some e.name ∧ hdAt f (f.M.length + k) = e.at_ ∧ hdLong f (f.M.length + k) = (decide (e.V.length < 1) || decide (30 < e.V.length)) := by
  have e1 : f.M.length + k - f.M.length = k := by omega
  refine ⟨?_, ?_, ?_⟩
  · unfold namesF
    rw [List.getElem?_append_right (by simp), List.length_map, e1, List.getElem?_map, he]; rfl
  · unfold hdAt; rw [if_neg (by omega), e1, he]; rfl
  · unfold hdLong; rw [if_neg (by omega), e1, he]; rfl
theorem hdErr_is {f : Fl} {k : Nat} {x : List UInt8} (hx : (namesF f)[k]? = some x) : hdErr f k = if stillT (namesF f) k x then (if hdLong f k then some (hdAt f k, 2) else none) else some (hdAt f k, 4) := by
  have e : (namesF f).getD k [] = x := by rw [List.getD_eq_getElem?_getD, hx]; rfl
  rw [stillT_self hx]
  unfold hdErr
  rw [e]
  cases h : ((typeK x).isSome || ((namesF f).take k).contains x) <;> simp [h]
theorem stillT_next {l : List (List UInt8)} {k : Nat} {x : List UInt8} (h : l[k]? = some x) : (fun y => stillT l k y && decide (y ≠ x)) = stillT l (k + 1) := still_next h
theorem heads_at {f : Fl} {k : Nat} {r : Int × Nat} (h : ∀ j, j < k → hdErr f j = none) (hk : k < (namesF f).length) (hr : hdErr f k = some r) : errH f = some r := findSome_range h hk hr
theorem heads_none {f : Fl} (h : ∀ j, j < (namesF f).length → hdErr f j = none) : errH f = none := by
  unfold errH
  rw [List.findSome?_eq_none_iff]
  exact fun j hj => h j (List.mem_range.1 hj)
/-- What a function tells of a fault, or of none. -/
def errV2 (r : Option (Int × Nat)) : Value := .tuple #[.int .i64 ((r.map (·.1)).getD 0), .int .i64 (((r.map (·.2)).getD 0 : Nat) : Int)]
theorem names_in {f : Fl} (h : FlIn f) : ∀ x ∈ f.M.map (·.name) ++ f.E.map (·.name), x.length ≤ maxLen := by
  intro x hx
  rcases List.mem_append.1 hx with hx | hx
  · obtain ⟨m, hm, rfl⟩ := List.mem_map.1 hx
    exact (h.M m hm).name
  · obtain ⟨e, he, rfl⟩ := List.mem_map.1 hx
    exact (h.E e he).name

end Go.Proofs.YtipaangiehdgkaaGreatDoor
/-
  What names mean as types: a map of pairs, its laws, and the contract of the function that makes it.
-/
namespace Go.Proofs.YtipaangiehdgkaaGreatDoor
set_option maxRecDepth 100000

open Go.RowKit Go.WideMaps Go.Maps

def mnV (r : Int × Int) : Value := .agg #[.int .i64 r.1, .int .i64 r.2]
def mnD (r : Int × Int) : DataW Unit := .agg [.lit (.int .i64 r.1), .lit (.int .i64 r.2)]
/-- How a pair of numbers reads. -/
def mnElem : Value → Option (DataW Unit × List MemPlace)
  | .agg cs => match cs.toList with
    | [.int .i64 a, .int .i64 b] => some (mnD (a, b), [])
    | _ => none
  | _ => none
theorem mnElem_mk (r : Int × Int) : mnElem (mnV r) = some (mnD r, []) := rfl
theorem mnElem_inv {v : Value} {r : Int × Int} {ps : List MemPlace} (h : mnElem v = some (mnD r, ps)) : v = mnV r := by
  unfold mnElem at h
  split at h
  · rename_i cs
    split at h
    · rename_i a b hc
      simp only [Option.some.injEq, Prod.mk.injEq, mnD, DataW.agg.injEq, List.cons.injEq, DataW.lit.injEq, Lit.int.injEq, true_and, and_true] at h
      obtain ⟨⟨rfl, rfl⟩, _⟩ := h
      have : cs = #[.int .i64 r.1, .int .i64 r.2] := by rw [← hc]
      rw [this]; rfl
    · cases h
  · cases h
/-- Block b is a map of names; it tells f of them. -/
def Mean (w : World) (b n : Nat) (f : List UInt8 → Option (Int × Int)) : Prop := ∃ D : DataW Unit, w.ownsMap Tryz.prog 9 mnElem b n D ∧ ∀ x, has D (kS x) = (f x).isSome ∧ ∀ r, f x = some r → D.atKey (kS x) (mnD (0, 0)) = mnD r
theorem Mean.made (w : World) : Mean (w.alloc (.map #[] 0)) w.heap.size 0 (fun _ => none) := ⟨.map [], World.ownsMap_made w _ _ _, fun _ => ⟨rfl, fun _ h => by cases h⟩⟩
theorem Mean.mono {w : World} {b n n' : Nat} {f : List UInt8 → Option (Int × Int)} (h : Mean w b n f) (hn : n ≤ n') : Mean w b n' f := by
  obtain ⟨D, h1, h2⟩ := h
  exact ⟨D, h1.mono hn, h2⟩
theorem Mean.lt {w : World} {b n : Nat} {f : List UInt8 → Option (Int × Int)} (h : Mean w b n f) : b < w.heap.size := by
  obtain ⟨D, h1, _⟩ := h
  exact h1.lt
theorem Mean.block {w w' : World} {b n : Nat} {f : List UInt8 → Option (Int × Int)} (h : Mean w b n f) (hb : w'.heap[b]? = w.heap[b]?) : Mean w' b n f := by
  obtain ⟨D, ⟨es, clock, h1, h2⟩, h3⟩ := h
  exact ⟨D, ⟨es, clock, hb.trans h1, h2⟩, h3⟩
theorem Mean.on {w w' : World} {b n : Nat} {f : List UInt8 → Option (Int × Int)} (h : Mean w b n f) (hb : Below w.heap.size w w') : Mean w' b n f := h.block (hb.block b h.lt)
theorem Mean.alloc {w : World} {b n : Nat} {f : List UInt8 → Option (Int × Int)} (h : Mean w b n f) (o : Obj) : Mean (w.alloc o) b n f := h.on (below_new w o)
theorem Mean.eq {w : World} {b n : Nat} {f g : List UInt8 → Option (Int × Int)} (h : Mean w b n f) (e : f = g) : Mean w b n g := e ▸ h
section

variable {w : World} {ops : Array Oper} {rest : List Oper} {o : Oper} {a : Act} {Q : Exit → Act → World → Prop}

end

/-- What the first k plain types mean. -/
def plainM (k : Nat) (x : List UInt8) : Option (Int × Int) := ((plainsL.take k).find? fun q => q.1 == x).map fun q => ((q.2 : Int), 0)
theorem plainM_next {k : Nat} {q : List UInt8 × Nat} (h : plainsL[k]? = some q) : (fun z => if z = q.1 then some ((q.2 : Int), (0 : Int)) else plainM k z) = plainM (k + 1) := by
  funext z
  unfold plainM
  have hp : plainsL.Pairwise fun a b => a.1 ≠ b.1 := by decide
  cases hf : (plainsL.take k).find? fun q => q.1 == z with
  | none =>
    rw [find_take_next h hf]
    by_cases hz : z = q.1
    · subst hz; simp
    · rw [if_neg hz, if_neg (fun e => hz e.symm)]
  | some p =>
    have h1 := List.find?_some hf
    have h2 := List.mem_of_find?_eq_some hf
    have hz : z ≠ q.1 := by
      rintro rfl
      obtain ⟨i, hi, rfl⟩ := List.mem_iff_getElem.1 h2
      rw [List.length_take] at hi
      obtain ⟨hk, rfl⟩ := List.getElem?_eq_some_iff.1 h
      have := (List.pairwise_iff_getElem.1 hp) i k (by omega) hk (by omega)
      rw [List.getElem_take] at h1
      exact this (by simpa using h1)
    rw [if_neg hz, List.take_add_one, List.find?_append, hf]
    rfl
theorem plainM_all (f : Fl) : plainM 8 = meanK f 0 := by
  funext x
  rw [meanK_start, ← typeK_find]
  unfold plainM
  rw [show plainsL.take 8 = plainsL from rfl]
  cases plainsL.find? (fun q => q.1 == x) <;> rfl
theorem meanK_put {f : Fl} (hp : (namesF f).Pairwise (· ≠ ·)) {k : Nat} {y : List UInt8} (h : (namesF f)[k]? = some y) (ht : typeK y = none) (r : Int × Int) (hr : r = if k < f.M.length then (9, (k : Int)) else (6, ((k - f.M.length : Nat) : Int))) :
    (fun z => if z = y then some r else meanK f k z) = meanK f (k + 1) := by
  funext z
  rw [meanK_next hp h ht, hr]
  split
  · split <;> rfl
  · rfl
end Go.Proofs.YtipaangiehdgkaaGreatDoor
/-
  A field that is resolved: the contract.
-/
namespace Go.Proofs.YtipaangiehdgkaaGreatDoor
set_option maxRecDepth 100000

open Go.RowKit Go.Maps

def df0 : Df := ⟨0, [], 0, 0, false, 0, 0⟩
/-- What is told of a field whose name, number and stance are right. -/
def fieldR (f : Fl) (x : Fd) : Df × Nat := if decide (x.key = []) || keyOK x.key then (if (kindF f x.type).isSome then (defF f x, 0) else (df0, 3)) else (df0, 5)
theorem infoDf : (Tryz.prog.info? 53).map (·.size) = some 7 := by kernel_rfl
theorem wpList_store_df {ops : Array Oper} {rest : List Oper} {o : Oper} {a : Act} {w : World} {Q : Exit → Act → World → Prop} (hgd : o.guard = none) (x y : Operand) (ho : o.op = .store 53 x y)
    (hd : o.dst = none) (g : Nat) (b1 : ByteArray) (b4 : Bool) (b0 b2 b3 b5 b6 : Int) (u0 u1 u2 u3 u4 u5 u6 : Value) (hx : a.eval x = .pointer (some ⟨g, 0, none⟩)) (hy : a.eval y = .agg #[.int .i64 b0, .string b1, .int .i64 b2, .int .i64 b3, .bool b4, .int .i64 b5, .int .i64 b6])
    (t : TypeId) (hg : w.heap[g]? = some (.cells #[u0, u1, u2, u3, u4, u5, u6] t (0, 0)))
    (h : wpList Tryz.prog ops Q rest a (w.setRow g #[.int .i64 b0, .string b1, .int .i64 b2, .int .i64 b3, .bool b4, .int .i64 b5, .int .i64 b6])) : wpList Tryz.prog ops Q (o :: rest) a w :=
  wpList_store_rowTo hgd 53 x y ho hd g _ hx hy t _ hg infoDf rfl (by simp [Value.oneCell']) h
theorem results_df1 {fn : Func} {p u : Tmp} (h : fn.results = #[.cell p 53, .tmp u]) (tmps : Array Value) (w : World) (g : Nat) (t : TypeId) (u0 u1 u2 u3 u4 u5 u6 : Value) (fr : Nat × Nat)
    (hp : tmps.getD p undef = .pointer (some ⟨g, 0, none⟩)) (hg : w.heap[g]? = some (.cells #[u0, u1, u2, u3, u4, u5, u6] t fr)) :
    (results fn tmps).run Tryz.prog w = .ok (.tuple #[.agg #[u0, u1, u2, u3, u4, u5, u6], tmps.getD u undef]) w :=
  results_row_tmp1 h tmps w g t _ fr _ hp hg Tryz.underlying53 rfl infoDf
theorem setRow_below {w w' : World} {g : Nat} (h : Below w.heap.size w w') (hg : w.heap.size ≤ g) (cs : Array Value) : Below w.heap.size w (w'.setRow g cs) := below_setRow h hg cs

end Go.Proofs.YtipaangiehdgkaaGreatDoor
/-
  A message's fields are sorted by their numbers: the contract.
-/
namespace Go.Proofs.YtipaangiehdgkaaGreatDoor
set_option maxRecDepth 100000

open Go.RowKit Go.Lib Go.Sort

def cmpNo (x y : Df) : Int := Lib.compareInt x.no y.no
theorem lt_no (x y : Df) : ltOf cmpNo x y = decide (x.no < y.no) := by
  unfold ltOf cmpNo Lib.compareInt
  by_cases h1 : x.no < y.no
  · simp [h1]
  · by_cases h2 : y.no < x.no <;> simp [h1, h2]
theorem swo_no : SWO (ltOf cmpNo) where
  irrefl x := by rw [lt_no]; simp
  trans x y z h1 h2 := by rw [lt_no] at *; simp at *; omega
  ntrans x y z h1 h2 := by rw [lt_no] at *; simp at *; omega
set_option maxHeartbeats 1000000 in
theorem compare_any (x y : Int) (w : World) : Calls Tryz.prog 56 #[.int .i64 x, .int .i64 y] w fun e w' => e = .returned (.int .i64 (Lib.compareInt x y)) ∧ w = w' := by
  have H : Hid (Lib.compareInt x y = if x < y then -1 else if y < x then 1 else 0) := Lib.hid rfl
  by_cases h1 : x < y
  · rw [if_pos h1] at H
    go_enter Tryz.func56, Tryz.ntmps56
    go_wp2
    go_ret
    exact ⟨ret_int H.out.symm, rfl⟩
  · rw [if_neg h1] at H
    by_cases h2 : y < x
    · rw [if_pos h2] at H
      go_enter Tryz.func56, Tryz.ntmps56
      go_wp2
      go_ret
      exact ⟨ret_int H.out.symm, rfl⟩
    · rw [if_neg h2] at H
      go_enter Tryz.func56, Tryz.ntmps56
      go_wp2
      go_ret
      exact ⟨ret_int H.out.symm, rfl⟩
theorem DC_len (d : Df) : (DC d).length = 7 := rfl
theorem DC_one (d : Df) : ∀ v ∈ DC d, v.oneCell' = true := by
  intro v hv
  simp only [DC, List.mem_cons, List.not_mem_nil, or_false] at hv
  rcases hv with rfl | rfl | rfl | rfl | rfl | rfl | rfl <;> rfl
theorem flat_dfv (d : Array Df) : (flatK DC 7 d).toList = dfv d.toList := by
  apply List.ext_getElem?
  intro t
  by_cases ht : t < d.size * 7
  · have h1 := get_flatK DC 7 d t ht
    rw [getElem!_pos _ t (by rw [size_flatK]; exact ht)] at h1
    have h2 := dfv_get d.toList (t / 7) (t % 7) d[t / 7]! (by
      rw [getElem!_pos d (t / 7) (by omega), Array.getElem?_toList, Array.getElem?_eq_getElem (by omega)]) (Nat.mod_lt _ (by omega))
    rw [show t / 7 * 7 + t % 7 = t by omega] at h2
    rw [h2, Array.getElem?_toList, Array.getElem?_eq_getElem (by rw [size_flatK]; exact ht), h1]
    have h3 : t % 7 < (DC d[t / 7]!).length := by rw [DC_len]; exact Nat.mod_lt _ (by omega)
    rw [List.getElem?_eq_getElem h3, getElem!_pos (DC d[t / 7]!) (t % 7) h3]
  · rw [List.getElem?_eq_none (by rw [Array.length_toList, size_flatK]; omega), List.getElem?_eq_none (by rw [dfv_length, Array.length_toList]; omega)]
theorem holds_own {w : World} {g : Nat} {cur : Array Value} {t : TypeId} {l : List Df} (hh : w.heap[g]? = some (.cells cur t (0, 0))) (ht : cur.toList.take (l.length * 7) = dfv l) : HoldsK DC 7 w g 0 l.toArray := by
  intro j hj
  rw [size_flatK] at hj
  have hj' : j < l.length * 7 := by simpa using hj
  rw [Nat.zero_add]
  refine ⟨?_, heap_free hh j⟩
  rw [heap_cell hh j]
  have h1 : (flatK DC 7 l.toArray)[j]? = (dfv l)[j]? := by rw [← Array.getElem?_toList, flat_dfv]
  have h2 : cur[j]? = (dfv l)[j]? := by
    rw [← ht, List.getElem?_take_of_lt hj', Array.getElem?_toList]
  rw [h2, ← h1, getElem!_pos (flatK DC 7 l.toArray) j (by rw [size_flatK]; exact hj), Array.getElem?_eq_getElem (by rw [size_flatK]; exact hj)]
  rfl
theorem sorted_own {w : World} {g n : Nat} {cur : Array Value} {t : TypeId} {d : Array Df} {os : Array Obj} (hh : w.heap[g]? = some (.cells cur t (0, 0))) (hs : d.size * 7 ≤ cur.size) :
    ∃ cur', (sortWorldK DC 7 w g 0 n d os).heap[g]? = some (.cells cur' t (0, 0)) ∧ cur'.size = cur.size ∧ cur'.toList.take (d.size * 7) = dfv d.toList ∧ w.grownBy (sortWorldK DC 7 w g 0 n d os) (some g) := by
  have hlt := (Array.getElem?_eq_some_iff.1 hh).1
  refine ⟨putCells id 0 (flatK DC 7 d) cur, ?_, by simp [putCells], ?_, rfl, rfl, rfl, ?_, ?_⟩
  · unfold sortWorldK putRowK putRow mapBlock grow
    simp only
    rw [Array.getElem?_append_left (by simpa using hlt), Array.getElem?_modify, if_pos rfl]
    show Option.map _ w.heap[g]? = _
    rw [hh]
    rfl
  · rw [← flat_dfv]
    apply List.ext_getElem?
    intro k
    by_cases hk : k < d.size * 7
    · rw [List.getElem?_take_of_lt hk, Array.getElem?_toList, Array.getElem?_toList]
      unfold putCells
      rw [Array.getElem?_mapIdx, Array.getElem?_eq_getElem (by omega), Array.getElem?_eq_getElem (by rw [size_flatK]; exact hk)]
      simp only [Option.map_some]
      rw [if_pos (by rw [size_flatK]; omega), Nat.sub_zero, getElem!_pos _ k (by rw [size_flatK]; exact hk)]
      rfl
    · rw [List.getElem?_eq_none (by rw [List.length_take]; omega), List.getElem?_eq_none (by rw [Array.length_toList, size_flatK]; omega)]
  · unfold sortWorldK putRowK putRow mapBlock grow
    simp
  · intro i hi hne
    unfold sortWorldK putRowK putRow mapBlock grow
    simp only
    rw [Array.getElem?_append_left (by simpa using hi), Array.getElem?_modify, if_neg (fun e => hne (by rw [e]))]
    rfl
theorem sorted_is {l d : List Df} (hp : d.Perm l) (hd : l.Pairwise fun a b => a.no ≠ b.no) (hs : ∀ i j (hi : i < d.length) (hj : j < d.length), i < j → ¬ d[j].no < d[i].no) : d = sortF l := by
  refine rise_unique ?_ (sortF_rise hd) (hp.trans (sortF_perm l).symm)
  have h2 := (hp.pairwise_iff (R := fun a b : Df => a.no ≠ b.no) (fun hab => fun e => hab e.symm)).2 hd
  rw [List.pairwise_iff_getElem] at h2 ⊢
  intro i j hi hj hij
  have h3 := h2 i j hi hj hij
  have h4 := hs i j hi hj hij
  omega
end Go.Proofs.YtipaangiehdgkaaGreatDoor
/-
  A message that is resolved: the contract.
-/
namespace Go.Proofs.YtipaangiehdgkaaGreatDoor
set_option maxRecDepth 100000

open Go.RowKit Go.Maps

theorem lit_struct (w : World) (cs : List Value) (t : TypeId) (h : cs.length ≤ maxLen) : Sl (w.alloc (.cells cs.toArray t)) (some ⟨w.heap.size, 0, none⟩) 1 1 cs.length cs :=
  ⟨by simp, Nat.le_refl _, by unfold maxLen; omega, by simp, fun ad ha _ => by obtain rfl := Option.some.inj ha; simp, (Sl.new w cs t h).cell⟩
theorem lit_df2 (w : World) (o : Obj) (d : Df) : Sl ((w.alloc o).alloc (.cells #[.int .i64 d.no, .string (txt d.name), .int .i64 d.kind, .int .i64 d.ref, .bool d.rep, .int .i64 d.key, .int .i64 d.one] 53)) (some ⟨w.heap.size + 1, 0, none⟩) 1 1 7 (DC d) := by
  have h := lit_struct (w.alloc o) (DC d) 53 (by unfold maxLen; simp [DC])
  rw [World.size_alloc] at h
  exact h
theorem free1S (v : Value) (l : List (List UInt8)) (w : World) (hr : Rb w.heap.size w v l.length 1 (strv l)) (hl : l.length ≤ 100000) (hx : ∀ x ∈ l, x.length ≤ maxLen) :
    Calls Tryz.prog 130 #[.slice (some ⟨w.heap.size, 0, none⟩) 1 1] (w.alloc (.cells #[v] 96)) fun e w' => e = .returned (.map (some (w.heap.size + 1))) ∧ FreeS w' (w.heap.size + 1) l.length (fun y => l.contains y) ∧ Below w.heap.size w w' := by
  obtain ⟨A, c, rfl, hs, hA⟩ := hr
  have hbw := below_new w (.cells #[.slice A l.length c] 96)
  have h := freeOfS_any (some ⟨w.heap.size, 0, none⟩) 1 [l] [.slice A l.length c] (w.alloc (.cells #[.slice A l.length c] 96)) (Sl.new w [.slice A l.length c] _ (by unfold maxLen; simp)) (by
    intro k l' hk
    match k, hk with
    | 0, hk =>
      obtain rfl : l = l' := by simpa using hk
      exact ⟨A, c, rfl, hs.on hbw, fun ad ha hp => Nat.lt_of_lt_of_le (hA ad ha hp) hbw.size⟩
    | k + 1, hk => simp at hk) (by simpa using hl) (by
    intro l' hl' x hxl
    obtain rfl : l' = l := by simpa using hl'
    exact hx x hxl) (by simp)
  refine h.mono ?_
  rintro e w' ⟨rfl, hm, hb⟩
  have e1 : (w.alloc (.cells #[.slice A l.length c] 96)).heap.size = w.heap.size + 1 := by simp
  rw [e1] at hm
  have e2 : [l].flatten = l := by simp
  rw [e2] at hm
  exact ⟨by rw [e1], hm, below_then hbw hb⟩
theorem free1I (v : Value) (l : List Int) (w : World) (hr : Rb w.heap.size w v l.length 1 (intv l)) (hl : l.length ≤ 100000) (hx : ∀ x ∈ l, inr x) :
    Calls Tryz.prog 164 #[.slice (some ⟨w.heap.size, 0, none⟩) 1 1] (w.alloc (.cells #[v] 24)) fun e w' => e = .returned (.map (some (w.heap.size + 1))) ∧ FreeI w' (w.heap.size + 1) l.length (fun y => l.contains y) ∧ Below w.heap.size w w' := by
  obtain ⟨A, c, rfl, hs, hA⟩ := hr
  have hbw := below_new w (.cells #[.slice A l.length c] 24)
  have h := freeOfI_any (some ⟨w.heap.size, 0, none⟩) 1 [l] [.slice A l.length c] (w.alloc (.cells #[.slice A l.length c] 24)) (Sl.new w [.slice A l.length c] _ (by unfold maxLen; simp)) (by
    intro k l' hk
    match k, hk with
    | 0, hk =>
      obtain rfl : l = l' := by simpa using hk
      exact ⟨A, c, rfl, hs.on hbw, fun ad ha hp => Nat.lt_of_lt_of_le (hA ad ha hp) hbw.size⟩
    | k + 1, hk => simp at hk) (by simpa using hl) (by
    intro l' hl' x hxl
    obtain rfl : l' = l := by simpa using hl'
    exact hx x hxl) (by simp)
  refine h.mono ?_
  rintro e w' ⟨rfl, hm, hb⟩
  have e1 : (w.alloc (.cells #[.slice A l.length c] 24)).heap.size = w.heap.size + 1 := by simp
  rw [e1] at hm
  have e2 : [l].flatten = l := by simp
  rw [e2] at hm
  exact ⟨by rw [e1], hm, below_then hbw hb⟩

/-- What is told of a message. -/
def msgR (f : Fl) (m : Ms) : Md := if (errM f m).isSome then ⟨[], []⟩ else msgD f m
theorem infoMd : (Tryz.prog.info? 66).map (·.size) = some 2 := by kernel_rfl
theorem infoDfs : (Tryz.prog.info? 53).map (fun i => (i.zero, i.size, i.bytes)) = some (some (.agg #[.int .i64 0, .string ⟨#[]⟩, .int .i64 0, .int .i64 0, .bool false, .int .i64 0, .int .i64 0]), 7, 64) := by kernel_rfl
theorem wpList_store_md {ops : Array Oper} {rest : List Oper} {o : Oper} {a : Act} {w : World} {Q : Exit → Act → World → Prop} (hgd : o.guard = none) (x y : Operand) (ho : o.op = .store 66 x y)
    (hd : o.dst = none) (g : Nat) (v0 v1 u0 u1 : Value) (hx : a.eval x = .pointer (some ⟨g, 0, none⟩)) (hy : a.eval y = .agg #[v0, v1]) (h0 : v0.oneCell' = true) (h1 : v1.oneCell' = true)
    (t : TypeId) (hg : w.heap[g]? = some (.cells #[u0, u1] t (0, 0)))
    (h : wpList Tryz.prog ops Q rest a (w.setRow g #[v0, v1])) : wpList Tryz.prog ops Q (o :: rest) a w :=
  wpList_store_rowTo hgd 66 x y ho hd g _ hx hy t _ hg infoMd rfl (by simp [h0, h1]) h
theorem wpList_load_md {ops : Array Oper} {rest : List Oper} {o : Oper} {a : Act} {w : World} {Q : Exit → Act → World → Prop} (hgd : o.guard = none) (x : Operand) (ho : o.op = .load 66 x)
    (g : Nat) (u0 u1 : Value) (hx : a.eval x = .pointer (some ⟨g, 0, none⟩)) (t : TypeId) (fr : Nat × Nat) (hg : w.heap[g]? = some (.cells #[u0, u1] t fr))
    (h : wpList Tryz.prog ops Q rest (a.put o.dst (.agg #[u0, u1])) w) : wpList Tryz.prog ops Q (o :: rest) a w :=
  wpList_load_row hgd 66 x ho g hx t _ fr _ hg Tryz.underlying66 rfl infoMd h
theorem results_md2 {fn : Func} {p u v : Tmp} (h : fn.results = #[.cell p 66, .tmp u, .tmp v]) (tmps : Array Value) (w : World) (g : Nat) (t : TypeId) (u0 u1 : Value) (fr : Nat × Nat)
    (hp : tmps.getD p undef = .pointer (some ⟨g, 0, none⟩)) (hg : w.heap[g]? = some (.cells #[u0, u1] t fr)) :
    (results fn tmps).run Tryz.prog w = .ok (.tuple #[.agg #[u0, u1], tmps.getD u undef, tmps.getD v undef]) w :=
  results_row_tmp2 h tmps w g t _ fr _ hp hg Tryz.underlying66 rfl infoMd
theorem still_drop {α : Type} [BEq α] [LawfulBEq α] (l bar : List α) : (fun y => (fun y => l.contains y) y && !bar.contains y) = still l bar 0 := (still_start l bar).symm

theorem fdErr_form {f : Fl} {m : Ms} {k : Nat} {x : Fd} (h : fdForm m k x = true) : fdErr f m k x = some (x.at_, 4) := by unfold fdErr; rw [if_pos h]
theorem fdErr_field {f : Fl} {m : Ms} {k : Nat} {x : Fd} (h : fdForm m k x = false) : fdErr f m k x = if (fieldR f x).2 = 0 then none else some (x.at_, (fieldR f x).2) := by
  unfold fdErr fieldR
  rw [h]
  by_cases hk : x.key = []
  · rw [decide_eq_true hk]
    simp only [Bool.true_or, if_true]
    rw [show decide (x.key ≠ []) = false from by simp [hk]]
    cases ht : kindF f x.type <;> simp
  · rw [decide_eq_false hk, show decide (x.key ≠ []) = true from by simp [hk]]
    cases hq : keyOK x.key <;> cases ht : kindF f x.type <;> simp
theorem fieldR_zero {f : Fl} {x : Fd} (h : (fieldR f x).2 = 0) : (fieldR f x).1 = defF f x := by
  unfold fieldR at h ⊢
  split at h
  · split at h
    · rename_i h1 h2; rw [if_pos h1, if_pos h2]
    · simp at h
  · simp at h
theorem msgR_bad {f : Fl} {m : Ms} {r : Int × Nat} (h : errM f m = some r) : msgR f m = ⟨[], []⟩ := by unfold msgR; rw [h]; rfl

theorem set2 {w : World} {g : Nat} {a b : Value} {t : TypeId} (h : w.heap[g]? = some (.cells #[a, b] t (0, 0))) (u v : Value) : (((w.setCell ⟨g, 0, none⟩ u).setCell ⟨g, 1, none⟩ v).drew).heap[g]? = some (.cells #[u, v] t (0, 0)) := by
  have h1 := heap_setCell_same h (j := 0) u
  have h2 := heap_setCell_same h1 (j := 1) v
  show ((w.setCell ⟨g, 0, none⟩ u).setCell ⟨g, 1, none⟩ v).heap[g]? = _
  simpa using h2
theorem below_set2 {w w' : World} {g : Nat} (h : Below w.heap.size w w') (hg : w.heap.size ≤ g) (u v : Value) : Below w.heap.size w (((w'.setCell ⟨g, 0, none⟩ u).setCell ⟨g, 1, none⟩ v).drew) :=
  ((h.setCell hg u).setCell hg v).trans (Below.refl _ _).drew
def MesRel (f : Fl) (m : Ms) (w : World) (b1 b2 D : Nat) (wD : World) (i : Value) (wr : World) : Prop :=
  ∃ (k : Nat) (dv : Value), i = .int .i64 k ∧ k ≤ m.F.length ∧ (∀ j x, j < k → m.F[j]? = some x → fdErr f m j x = none) ∧ FreeS wr b1 m.F.length (still (nmF m) m.ones k) ∧ FreeI wr b2 m.F.length (still (noF m) m.res k) ∧
    wr.heap[D]? = some (.cells #[.string (txt m.name), dv] 66 (0, 0)) ∧ wr.ownsRow (D + 1) 53 7 dv k (dfv ((m.F.take k).map (defF f))) ∧ Below (w.heap.size + 2) wD wr

end Go.Proofs.YtipaangiehdgkaaGreatDoor
/-
  The first name, or number, of an enum that is wrong: the contract.
-/
namespace Go.Proofs.YtipaangiehdgkaaGreatDoor
set_option maxRecDepth 100000

open Go.RowKit Go.Maps

theorem wrongB_code {V : List (List UInt8)} {N : List Int} {k : Nat} {x : List UInt8} {n : Int} (hx : V[k]? = some x) (hn : N[k]? = some n) :
    wrongB V N k x n = (!still V [] k x || !still N [] k n || !(decide (-2147483648 ≤ n) && decide (n ≤ 2147483647)) || (k == 0 && n != 0)) := by
  rw [still_self hx, still_self hn]
  unfold wrongB
  simp
theorem still_none {α : Type} [BEq α] [LawfulBEq α] (l : List α) : (fun y => l.contains y) = still l [] 0 := by funext y; simp [still]
set_option maxRecDepth 1000000 in
set_option maxHeartbeats 4000000 in
theorem wrong_any (B : Nat) (vN vI : Value) (V : List (List UInt8)) (N : List Int) (w : World) (hB : B ≤ w.heap.size) (hN : Rb B w vN V.length 1 (strv V)) (hI : Rb B w vI N.length 1 (intv N)) (hlen : V.length = N.length) (hl : N.length ≤ 100000) (hV : ∀ x ∈ V, x.length ≤ maxLen) (hNi : ∀ n ∈ N, inr n) :
    Calls Tryz.prog 136 #[vN, vI] w fun e w' => ∃ r : Nat, e = .returned (.int .i64 r) ∧ r ≤ N.length ∧ (∀ (k : Nat) x n, k < r → V[k]? = some x → N[k]? = some n → wrongB V N k x n = false) ∧ (∀ x n, V[r]? = some x → N[r]? = some n → wrongB V N r x n = true) ∧ Below w.heap.size w w' := by
  have HF1 := Lib.hid (free1S vN V w (hN.mono hB) (by omega) hV)
  have HF2 := Lib.hid (fun wx (hx : Below w.heap.size w wx) => free1I vI N wx ((hI.low (Low.below hx hB)).mono (Nat.le_trans hB hx.size)) (by omega) hNi)
  obtain ⟨A1, c1, rfl, s1, a1⟩ := hN
  obtain ⟨A2, c2, rfl, s2, a2⟩ := hI
  have HS1 := Lib.hid s1
  have HS2 := Lib.hid s2
  have HV := Lib.hid hV
  have HN := Lib.hid hNi
  have HL := Lib.hid hlen
  clear s1 s2 hV hNi hlen
  go_enter Tryz.func136, Tryz.ntmps136
  go_wp2_with (first
    | (go_at_call 130; refine HF1.out.mono ?_; rintro e w2 ⟨rfl, hm2, hb2⟩; replace hm2 := hm2.eq (still_none V); have hz2 := hm2.lt)
    | (go_at_call 164; refine (HF2.out _ hb2).mono ?_; rintro e w3 ⟨rfl, hm3, hb3⟩; replace hm3 := hm3.eq (still_none N); have hn3 := hm2.on hb3; have hz3 := hm3.lt; have hbw3 := below_then hb2 hb3))
  obtain ⟨b1, hb1e⟩ : ∃ b1, w.heap.size + 1 = b1 := ⟨_, rfl⟩
  obtain ⟨b2, hb2e⟩ : ∃ b2, w2.heap.size + 1 = b2 := ⟨_, rfl⟩
  simp only [hb1e, hb2e] at hn3 hm3 hz2 hz3 ⊢
  have l1 : w.heap.size < b1 := by omega
  have l2 : b1 < b2 := by omega
  clear hm2 hb2 hb3 HF1 HF2
  go_loopw [17] (fun i wr => ∃ k : Nat, i = .int .i64 k ∧ k ≤ N.length ∧ (∀ (j : Nat) x n, j < k → V[j]? = some x → N[j]? = some n → wrongB V N j x n = false) ∧ FreeS wr b1 V.length (still V [] k) ∧ FreeI wr b2 N.length (still N [] k) ∧ Below w.heap.size w wr) (fun i _ => N.length - (intOf i).toNat)
  case atStart => exact ⟨0, rfl, by omega, fun j x n hj => by omega, hn3, hm3, hbw3⟩
  case round =>
    obtain ⟨k, rfl, hk, herr, hmS, hmI, hb⟩ := hrel
    have HER := Lib.hid herr
    clear herr
    by_cases hlt : k < N.length
    · have hlt2 : k < V.length := by rw [HL.out]; exact hlt
      obtain ⟨n, hn0⟩ : ∃ n, N[k]? = some n := ⟨_, List.getElem?_eq_getElem hlt⟩
      obtain ⟨x, hx0⟩ : ∃ x, V[k]? = some x := ⟨_, List.getElem?_eq_getElem hlt2⟩
      obtain ⟨ad, rfl, hg, c0⟩ := intr_at (HS2.out.low a2 (Low.below hb hB)) hn0
      obtain ⟨ad', rfl, hg', c0'⟩ := strr_at (HS1.out.low a1 (Low.below hb hB)) hx0
      have hxl := HV.out x (List.mem_of_getElem? hx0)
      have hnl := HN.out n (List.mem_of_getElem? hn0)
      obtain ⟨p1, hp1⟩ : ∃ p, still V [] k x = p := ⟨_, rfl⟩
      obtain ⟨p2, hp2⟩ : ∃ p, still N [] k n = p := ⟨_, rfl⟩
      obtain ⟨p3, hp3⟩ : ∃ p, (decide (-2147483648 ≤ n) && decide (n ≤ 2147483647)) = p := ⟨_, rfl⟩
      have HW := Lib.hid (wrongB_code hx0 hn0)
      have HT1 := fun wx hx => takeS_any b1 V.length (still V [] k) x hxl wx hx
      have HT2 := fun wx hx => takeI_any b2 N.length (still N [] k) n hnl wx hx
      have HT3 := fun wx => isEnums_any n wx
      simp only [hp1] at HT1
      simp only [hp2] at HT2
      simp only [hp3] at HT3
      rw [hp1, hp2, hp3] at HW
      have HQ1 := Lib.hid HT1
      have HQ2 := Lib.hid HT2
      have HQ3 := Lib.hid HT3
      have HX0 := Lib.hid hx0
      have HN0 := Lib.hid hn0
      have HB := Lib.hid hb
      have fin : ∀ (w' : World), wrongB V N k x n = true → Below w.heap.size w w' → ∃ r : Nat, Ending.returned (.int .i64 ((k : Nat) : Int)) = .returned (.int .i64 r) ∧ r ≤ N.length ∧ (∀ (k : Nat) x n, k < r → V[k]? = some x → N[k]? = some n → wrongB V N k x n = false) ∧ (∀ x n, V[r]? = some x → N[r]? = some n → wrongB V N r x n = true) ∧ Below w.heap.size w w' := by
        intro w' hwr hbw
        refine ⟨k, rfl, by omega, HER.out, fun y q hy hq => ?_, hbw⟩
        rw [HX0.out] at hy
        rw [HN0.out] at hq
        obtain rfl := Option.some.inj hy
        obtain rfl := Option.some.inj hq
        exact hwr
      have FIN := Lib.hid fin
      clear hx0 hn0 hp1 hp2 hp3 HT1 HT2 HT3 hg hg' fin hxl hnl
      cases p1 with
      | false =>
        go_wp2_with (go_at_call 86; refine (HQ1.out _ hmS).mono ?_; rintro e w8 ⟨rfl, hm8, hg8⟩)
        go_ret
        exact FIN.out _ (by rw [HW.out]; rfl) (HB.out.grown hg8 HB.out.size (fun j hj => by injection hj with hj; omega))
      | true =>
        cases p2 with
        | false =>
          go_wp2_with (first
            | (go_at_call 86; refine (HQ1.out _ hmS).mono ?_; rintro e w8 ⟨rfl, hm8, hg8⟩; have hbw8 := HB.out.grown hg8 HB.out.size (fun j hj => by injection hj with hj; omega))
            | (go_at_call 165; refine (HQ2.out _ (hmI.kept hg8 (by simp; omega))).mono ?_; rintro e w9 ⟨rfl, hm9, hg9⟩))
          go_ret
          exact FIN.out _ (by rw [HW.out]; rfl) (hbw8.grown hg9 hbw8.size (fun j hj => by injection hj with hj; omega))
        | true =>
          cases p3 with
          | false =>
            go_wp2_with (first
              | (go_at_call 86; refine (HQ1.out _ hmS).mono ?_; rintro e w8 ⟨rfl, hm8, hg8⟩; have hbw8 := HB.out.grown hg8 HB.out.size (fun j hj => by injection hj with hj; omega))
              | (go_at_call 165; refine (HQ2.out _ (hmI.kept hg8 (by simp; omega))).mono ?_; rintro e w9 ⟨rfl, hm9, hg9⟩)
              | (go_at_call 166; refine (HQ3.out _).mono ?_; rintro e w9' ⟨rfl, rfl⟩))
            go_ret
            exact FIN.out _ (by rw [HW.out]; rfl) (hbw8.grown hg9 hbw8.size (fun j hj => by injection hj with hj; omega))
          | true =>
            by_cases hz : k = 0 ∧ n ≠ 0
            · have hk0 : ((k : Int) == 0) = true := by simp [hz.1]
              have hn1 : (n != 0) = true := by simp [hz.2]
              have HWW : Hid (wrongB V N k x n = true) := Lib.hid (by rw [HW.out]; simp [hz.1, hz.2])
              clear hz
              go_wp2_with (first
                | (go_at_call 86; refine (HQ1.out _ hmS).mono ?_; rintro e w8 ⟨rfl, hm8, hg8⟩; have hbw8 := HB.out.grown hg8 HB.out.size (fun j hj => by injection hj with hj; omega))
                | (go_at_call 165; refine (HQ2.out _ (hmI.kept hg8 (by simp; omega))).mono ?_; rintro e w9 ⟨rfl, hm9, hg9⟩)
                | (go_at_call 166; refine (HQ3.out _).mono ?_; rintro e w9' ⟨rfl, rfl⟩))
              go_ret
              exact FIN.out _ HWW.out (hbw8.grown hg9 hbw8.size (fun j hj => by injection hj with hj; omega))
            · have HWW : Hid (wrongB V N k x n = false) := Lib.hid (by
                rw [HW.out]
                by_cases h1 : k = 0
                · have : n = 0 := Classical.byContradiction fun h2 => hz ⟨h1, h2⟩
                  simp [this]
                · simp [h1])
              obtain ⟨a1', ha1⟩ : ∃ a, ((k : Int) == 0) = a := ⟨_, rfl⟩
              obtain ⟨a2', ha2⟩ : ∃ a, (n != 0) = a := ⟨_, rfl⟩
              have HZ : Hid ((a1' && a2') = false) := Lib.hid (by
                rw [← ha1, ← ha2]
                by_cases h1 : k = 0
                · have : n = 0 := Classical.byContradiction fun h2 => hz ⟨h1, h2⟩
                  simp [this]
                · have : ((k : Int) == 0) = false := by simp; omega
                  simp [this])
              clear hz
              have next : ∀ w8 w9, FreeS w8 b1 V.length (fun y => still V [] k y && decide (y ≠ x)) → wr.grownBy w8 (some b1) → FreeI w9 b2 N.length (fun y => still N [] k y && decide (y ≠ n)) → w8.grownBy w9 (some b2) →
                  (∀ (j : Nat) x n, j < k + 1 → V[j]? = some x → N[j]? = some n → wrongB V N j x n = false) ∧ FreeS w9 b1 V.length (still V [] (k + 1)) ∧ FreeI w9 b2 N.length (still N [] (k + 1)) ∧ Below w.heap.size w w9 := by
                intro w8 w9 hm8 hg8 hm9 hg9
                have hbw8 := HB.out.grown hg8 HB.out.size (fun j hj => by injection hj with hj; omega)
                refine ⟨fun j y q hj hy hq => ?_, (hm8.kept hg9 (by simp; omega)).eq (still_next HX0.out), hm9.eq (still_next HN0.out), hbw8.grown hg9 hbw8.size (fun j hj => by injection hj with hj; omega)⟩
                by_cases hj2 : j < k
                · exact HER.out j y q hj2 hy hq
                · obtain rfl : j = k := by omega
                  rw [HX0.out] at hy
                  rw [HN0.out] at hq
                  obtain rfl := Option.some.inj hy
                  obtain rfl := Option.some.inj hq
                  exact HWW.out
              have NX := Lib.hid next
              clear next
              cases a1' <;> cases a2'
              case true.true => exact absurd HZ.out (by simp)
              all_goals
                go_wp2_with (first
                  | (go_at_call 86; refine (HQ1.out _ hmS).mono ?_; rintro e w8 ⟨rfl, hm8, hg8⟩)
                  | (go_at_call 165; refine (HQ2.out _ (hmI.kept hg8 (by simp; omega))).mono ?_; rintro e w9 ⟨rfl, hm9, hg9⟩)
                  | (go_at_call 166; refine (HQ3.out _).mono ?_; rintro e w9' ⟨rfl, rfl⟩))
                obtain ⟨r1, r2, r3, r4⟩ := NX.out w8 w9 hm8 hg8 hm9 hg9
                exact ⟨⟨k + 1, by go_num, by omega, r1, r2, r3, r4⟩, by simp [intOf]; omega⟩
    · obtain rfl : k = N.length := by omega
      go_wp2
      go_ret
      refine ⟨N.length, rfl, Nat.le_refl _, HER.out, fun x n _ hn => ?_, hb⟩
      rw [List.getElem?_eq_none (Nat.le_refl _)] at hn
      cases hn
end Go.Proofs.YtipaangiehdgkaaGreatDoor
/-
  May a field, a message, an enum be: the contracts.
-/
namespace Go.Proofs.YtipaangiehdgkaaGreatDoor
set_option maxRecDepth 100000

open Go.RowKit Go.Maps

set_option maxHeartbeats 2000000 in
theorem mayRefer_any (A1 A2 : Option Addr) (q1 q2 : Nat) (s : Sc) (kind ref : Int) (w : World) :
    Calls Tryz.prog 162 #[.agg #[.slice A1 s.M.length q1, .slice A2 s.E.length q2], .int .i64 kind, .int .i64 ref] w fun e w' => e = .returned (.bool (referB s kind ref)) ∧ Below w.heap.size w w' := by
  have H : Hid (referB s kind ref = (decide (0 ≤ kind) && decide (kind < 10) && decide (0 ≤ ref) && decide (ref < if kind = 9 then (s.M.length : Int) else if kind = 6 then (s.E.length : Int) else 1))) := Lib.hid rfl
  by_cases h9 : kind = 9
  · subst h9
    rw [if_pos rfl] at H
    go_enter Tryz.func162, Tryz.ntmps162
    go_wp2
    all_goals (go_ret; refine ⟨ret_bool ?_, below_new _ _⟩; rw [H.out]; first | (simp_all; done) | (rw [Bool.eq_iff_iff]; simp only [Bool.and_eq_true, decide_eq_true_eq, Bool.false_eq_true, true_iff, false_iff]; omega))
  · rw [if_neg h9] at H
    have n9 : (kind == 9) = false := beq_eq_false_iff_ne.2 h9
    by_cases h6 : kind = 6
    · subst h6
      rw [if_pos rfl] at H
      clear h9
      go_enter Tryz.func162, Tryz.ntmps162
      go_wp2
      all_goals (go_ret; refine ⟨ret_bool ?_, below_new _ _⟩; rw [H.out]; first | (simp_all; done) | (rw [Bool.eq_iff_iff]; simp only [Bool.and_eq_true, decide_eq_true_eq, Bool.false_eq_true, true_iff, false_iff]; omega))
    · rw [if_neg h6] at H
      have n6 : (kind == 6) = false := beq_eq_false_iff_ne.2 h6
      go_enter Tryz.func162, Tryz.ntmps162
      go_wp2
      all_goals (go_ret; refine ⟨ret_bool ?_, below_new _ _⟩; rw [H.out]; first | (simp_all; done) | (rw [Bool.eq_iff_iff]; simp only [Bool.and_eq_true, decide_eq_true_eq, Bool.false_eq_true, true_iff, false_iff]; omega))
set_option maxHeartbeats 4000000 in
theorem mayField_any (A1 A2 : Option Addr) (q1 q2 : Nat) (s : Sc) (d : Df) (w : World) (T : Tabs w) :
    Calls Tryz.prog 134 #[.agg #[.slice A1 s.M.length q1, .slice A2 s.E.length q2], .agg #[.int .i64 d.no, .string (txt d.name), .int .i64 d.kind, .int .i64 d.ref, .bool d.rep, .int .i64 d.key, .int .i64 d.one]] w fun e w' => e = .returned (.bool (fdMayB s d)) ∧ Below w.heap.size w w' := by
  obtain ⟨kb, hkb⟩ : ∃ b, decide (d.key ≠ -1) = b := ⟨_, rfl⟩
  obtain ⟨p1, hp1⟩ : ∃ b, keyedB d.key = b := ⟨_, rfl⟩
  obtain ⟨p2, hp2⟩ : ∃ b, referB s d.kind d.ref = b := ⟨_, rfl⟩
  obtain ⟨p3, hp3⟩ : ∃ b, standB 30 d.one d.rep kb = b := ⟨_, rfl⟩
  have H : Hid (fdMayB s d = (!(kb && !p1) && p2 && p3)) := Lib.hid (by unfold fdMayB; rw [hkb, hp1, hp2, hp3])
  have hk2 : (d.key != -1) = kb := by rw [← hkb]; by_cases h : d.key = -1 <;> simp [h]
  have H1 := fun wx => isKey_any d.key wx
  have H2 := fun wx => mayRefer_any A1 A2 q1 q2 s d.kind d.ref wx
  have H3 := fun wx (hT : Tabs wx) => mayStand_any 30 d.one d.rep kb wx hT
  simp only [hp1] at H1
  simp only [hp2] at H2
  simp only [hp3] at H3
  have Q1 := Lib.hid H1
  have Q2 := Lib.hid H2
  have Q3 := Lib.hid H3
  have hb0 : Below w.heap.size w ((w.alloc (.cells #[.slice A1 s.M.length q1, .slice A2 s.E.length q2] 33)).alloc (.cells #[.int .i64 d.no, .string (txt d.name), .int .i64 d.kind, .int .i64 d.ref, .bool d.rep, .int .i64 d.key, .int .i64 d.one] 53)) := below_lit (below_new _ _) _
  have hx0 := heap_second w (.cells #[.slice A1 s.M.length q1, .slice A2 s.E.length q2] 33) (.cells #[.int .i64 d.no, .string (txt d.name), .int .i64 d.kind, .int .i64 d.ref, .bool d.rep, .int .i64 d.key, .int .i64 d.one] 53)
  have HT := Lib.hid T
  clear H1 H2 H3 hkb hp1 hp2 hp3 T
  have hs0 : ((w.alloc (.cells #[.slice A1 s.M.length q1, .slice A2 s.E.length q2] 33)).alloc (.cells #[.int .i64 d.no, .string (txt d.name), .int .i64 d.kind, .int .i64 d.ref, .bool d.rep, .int .i64 d.key, .int .i64 d.one] 53)).heap.size = w.heap.size + 2 := by simp
  cases kb with
  | true =>
    cases p1 with
    | false =>
      go_enter Tryz.func134, Tryz.ntmps134
      go_wp2_with (go_at_call 161; refine (Q1.out _).mono ?_; rintro e w1 ⟨rfl, rfl⟩)
      go_ret
      exact ⟨by rw [H.out]; rfl, hb0⟩
    | true =>
      cases p2 with
      | false =>
        go_enter Tryz.func134, Tryz.ntmps134
        go_wp2_with (first
          | (go_at_call 161; refine (Q1.out _).mono ?_; rintro e w1 ⟨rfl, rfl⟩)
          | (go_at_call 162; refine (Q2.out _).mono ?_; rintro e w1 ⟨rfl, hb1⟩))
        go_ret
        exact ⟨by rw [H.out]; rfl, below_then hb0 hb1⟩
      | true =>
        go_enter Tryz.func134, Tryz.ntmps134
        go_wp2_with (first
          | (go_at_call 161; refine (Q1.out _).mono ?_; rintro e w1 ⟨rfl, rfl⟩)
          | (go_at_call 162; refine (Q2.out _).mono ?_; rintro e w1 ⟨rfl, hb1⟩; have hx1 := (hb1.block _ (by rw [hs0]; omega)).trans hx0; have c4 := heap_cell hx1 4; have c6 := heap_cell hx1 6; simp at c4 c6)
          | (go_at_call 163; refine (Q3.out _ (HT.out.on (below_then hb0 hb1))).mono ?_; rintro e w2 ⟨rfl, hb2⟩))
        go_ret
        exact ⟨by rw [H.out]; cases p3 <;> rfl, below_then (below_then hb0 hb1) hb2⟩
  | false =>
    cases p2 with
    | false =>
      go_enter Tryz.func134, Tryz.ntmps134
      go_wp2_with (go_at_call 162; refine (Q2.out _).mono ?_; rintro e w1 ⟨rfl, hb1⟩)
      go_ret
      exact ⟨by rw [H.out]; cases p1 <;> rfl, below_then hb0 hb1⟩
    | true =>
      go_enter Tryz.func134, Tryz.ntmps134
      go_wp2_with (first
        | (go_at_call 162; refine (Q2.out _).mono ?_; rintro e w1 ⟨rfl, hb1⟩; have hx1 := (hb1.block _ (by rw [hs0]; omega)).trans hx0; have c4 := heap_cell hx1 4; have c6 := heap_cell hx1 6; simp at c4 c6)
        | (go_at_call 163; refine (Q3.out _ (HT.out.on (below_then hb0 hb1))).mono ?_; rintro e w2 ⟨rfl, hb2⟩))
      go_ret
      exact ⟨by rw [H.out]; cases p1 <;> cases p3 <;> rfl, below_then (below_then hb0 hb1) hb2⟩
set_option maxRecDepth 1000000 in
set_option maxHeartbeats 4000000 in
theorem mayMessage_any (B : Nat) (A1 A2 : Option Addr) (q1 q2 : Nat) (s : Sc) (m : Md) (vF : Value) (w : World) (hB : B ≤ w.heap.size) (hr : Rb B w vF m.F.length 7 (dfv m.F)) (hin : MdIn m) (T : Tabs w) :
    Calls Tryz.prog 87 #[.agg #[.slice A1 s.M.length q1, .slice A2 s.E.length q2], .agg #[.string (txt m.name), vF]] w fun e w' => ∃ b, e = .returned (.bool b) ∧ (b = true ↔ MdMay s m) ∧ Below w.heap.size w w' := by
  have HEA := Lib.hid (fun wx (hx : Below w.heap.size w wx) (hl : m.F.length ≤ 30) => eachDf_any B vF m.F (by omega) wx (Nat.le_trans hB hx.size) (hr.low (Low.below hx hB)))
  obtain ⟨AF, cF, rfl, sF, aF⟩ := hr
  have HSF := Lib.hid sF
  have HIN := Lib.hid hin
  have HT := Lib.hid T
  have HI := Lib.hid (mdMay_iff s m)
  have hb0 : Below w.heap.size w ((w.alloc (.cells #[.slice A1 s.M.length q1, .slice A2 s.E.length q2] 33)).alloc (.cells #[.string (txt m.name), .slice AF m.F.length cF] 66)) := below_lit (below_new _ _) _
  have hx0 : ((w.alloc (.cells #[.slice A1 s.M.length q1, .slice A2 s.E.length q2] 33)).alloc (.cells #[.string (txt m.name), .slice AF m.F.length cF] 66)).heap[w.heap.size]? = some (.cells #[.slice A1 s.M.length q1, .slice A2 s.E.length q2] 33 (0, 0)) := ((below_new _ _).block _ (by simp)).trans (heap_alloc_new w _)
  have hr0 := heap_second w (.cells #[.slice A1 s.M.length q1, .slice A2 s.E.length q2] 33) (.cells #[.string (txt m.name), .slice AF m.F.length cF] 66)
  have hs0 : ((w.alloc (.cells #[.slice A1 s.M.length q1, .slice A2 s.E.length q2] 33)).alloc (.cells #[.string (txt m.name), .slice AF m.F.length cF] 66)).heap.size = w.heap.size + 2 := by simp
  have hnx : ∀ x ∈ mdNames m, x.length ≤ maxLen := by
    intro x hx
    obtain ⟨d, hd, rfl⟩ := List.mem_map.1 hx
    exact (hin.F d hd).name
  have hnl : (mdNames m).length = m.F.length := by simp [mdNames]
  clear sF hin T
  by_cases h30 : m.F.length ≤ 30
  · have hd : decide ((30 : Int) < (m.F.length : Int)) = false := by rw [decide_eq_false_iff_not]; omega
    have HE1 := Lib.hid (HEA.out _ hb0 h30)
    clear HEA
    go_enter Tryz.func87, Tryz.ntmps87
    go_wp2_with (first
      | (go_at_call 131; refine HE1.out.mono ?_; rintro e w1 ⟨uN, rfl, ho1, hb1⟩; obtain ⟨AN, cN, rfl, -⟩ := Sl.of_own ho1; have hz1 := hb1.size; rw [hs0] at hz1; have HF1 := Lib.hid (free1S _ (mdNames m) w1 (by rw [hnl]; exact Rb.of_own ho1) (by omega) hnx))
      | (go_at_call 130; refine HF1.out.mono ?_; rintro e w2 ⟨rfl, hm2, hb2⟩; replace hm2 := hm2.eq (still_none (mdNames m)); rw [hnl] at hm2; have hbw2 := below_then (below_then hb0 hb1) hb2; have hx2 := (hb2.block _ (by omega)).trans ((hb1.block _ (by rw [hs0]; omega)).trans hx0); have hr2 := (hb2.block _ (by omega)).trans ((hb1.block _ (by rw [hs0]; omega)).trans hr0); have c2 := heap_cell hr2 1; simp at c2; have hz2 := hm2.lt))
    obtain ⟨b1, hb1e⟩ : ∃ b1, w1.heap.size + 1 = b1 := ⟨_, rfl⟩
    simp only [hb1e] at hm2 hz2 ⊢
    have l1 : w.heap.size + 2 ≤ b1 := by omega
    have HX2 := Lib.hid hx2
    have HB2 := Lib.hid hbw2
    clear hx0 hr0 hx2 hr2 hb0 hb1 hb2 hbw2 c2 HF1 HE1 hnx ho1
    go_loopw [6, 21] (fun o i wr => ∃ k : Nat, i = .int .i64 k ∧ o = .int .i64 (lastNo m.F k) ∧ k ≤ m.F.length ∧ (∀ j d, j < k → m.F[j]? = some d → mdAtB s m j d = true) ∧ FreeS wr b1 m.F.length (still (mdNames m) [] k) ∧ Below (w.heap.size + 1) w2 wr) (fun _ i _ => m.F.length - (intOf i).toNat)
    case atStart => exact ⟨0, rfl, rfl, by omega, fun j d hj => by omega, hm2, Below.refl _ _⟩
    case round =>
      obtain ⟨k, rfl, rfl, hk, herr, hmS, hb⟩ := hrel
      have hxr := (hb.block w.heap.size (by omega)).trans HX2.out
      have hbw := HB2.out.trans (hb.mono (by omega))
      have hzr := hb.size
      have HQ := Lib.hid herr
      clear herr
      by_cases hlt : k < m.F.length
      · obtain ⟨d, hd0⟩ : ∃ d, m.F[k]? = some d := ⟨_, List.getElem?_eq_getElem hlt⟩
        obtain ⟨ad, rfl, hg, c0, c1, c2, c3, c4, c5, c6⟩ := dfr_at (HSF.out.low aF (Low.below hbw hB)) hd0
        have hdl := (HIN.out.F d (List.mem_of_getElem? hd0)).name
        obtain ⟨ln, hln⟩ : ∃ l, lastNo m.F k = l := ⟨_, rfl⟩
        obtain ⟨p0, hp0⟩ : ∃ b, decide (d.no ≤ ln) = b := ⟨_, rfl⟩
        obtain ⟨p1, hp1⟩ : ∃ b, numberB d.no = b := ⟨_, rfl⟩
        obtain ⟨p2, hp2⟩ : ∃ b, still (mdNames m) [] k d.name = b := ⟨_, rfl⟩
        obtain ⟨p3, hp3⟩ : ∃ b, fdMayB s d = b := ⟨_, rfl⟩
        have HA : Hid (mdAtB s m k d = (!p0 && p1 && p2 && p3)) := Lib.hid (by unfold mdAtB; rw [hln, hp0, hp1, hp2, hp3])
        have T1 := fun wx => isNumber_any d.no wx
        have T2 := fun wx hx => takeS_any b1 m.F.length (still (mdNames m) [] k) d.name hdl wx hx
        have T3 := fun wx (hT : Tabs wx) => mayField_any A1 A2 q1 q2 s d wx hT
        simp only [hp1] at T1
        simp only [hp2] at T2
        simp only [hp3] at T3
        have Q1 := Lib.hid T1
        have Q2 := Lib.hid T2
        have Q3 := Lib.hid T3
        have HD0 := Lib.hid hd0
        have HBW := Lib.hid hbw
        have HXR := Lib.hid hxr
        have bad : ∀ w', mdAtB s m k d = false → Below w.heap.size w w' → ∃ b, Ending.returned (.bool false) = .returned (.bool b) ∧ (b = true ↔ MdMay s m) ∧ Below w.heap.size w w' := fun w' hf hb' => ⟨false, rfl, ⟨fun h => (by cases h), fun h => (by have := (HI.out.1 h).2 k d HD0.out; rw [hf] at this; cases this)⟩, hb'⟩
        have HBAD := Lib.hid bad
        have hne : wr.heap.size ≠ b1 := by have := hmS.lt; omega
        clear hd0 hp1 hp2 hp3 T1 T2 T3 hg bad hbw hxr
        rw [hln]
        cases p0 with
        | true =>
          go_wp2
          go_ret
          exact HBAD.out _ (by rw [HA.out]; rfl) (below_lit HBW.out _)
        | false =>
          cases p1 with
          | false =>
            go_wp2_with (go_at_call 133; refine (Q1.out _).mono ?_; rintro e w7 ⟨rfl, rfl⟩)
            go_ret
            exact HBAD.out _ (by rw [HA.out]; rfl) (below_lit HBW.out _)
          | true =>
            cases p2 with
            | false =>
              go_wp2_with (first
                | (go_at_call 133; refine (Q1.out _).mono ?_; rintro e w7 ⟨rfl, rfl⟩)
                | (go_at_call 86; refine (Q2.out _ (hmS.alloc _)).mono ?_; rintro e w8 ⟨rfl, hm8, hg8⟩))
              go_ret
              exact HBAD.out _ (by rw [HA.out]; rfl) ((below_lit HBW.out _).grown hg8 (by have := HBW.out.size; simp; omega) (fun j hj => by injection hj with hj; omega))
            | true =>
              have hyr := ((below_new wr (.cells #[.int .i64 d.no, .string (txt d.name), .int .i64 d.kind, .int .i64 d.ref, .bool d.rep, .int .i64 d.key, .int .i64 d.one] 53)).block _ (Array.getElem?_eq_some_iff.1 HXR.out).1).trans HXR.out
              cases p3 with
              | false =>
                go_wp2_with (first
                  | (go_at_call 133; refine (Q1.out _).mono ?_; rintro e w7 ⟨rfl, rfl⟩)
                  | (go_at_call 86; refine (Q2.out _ (hmS.alloc _)).mono ?_; rintro e w8 ⟨rfl, hm8, hg8⟩; have hbw8 := (below_lit HBW.out _).grown hg8 (by have := HBW.out.size; simp; omega) (fun j hj => by injection hj with hj; omega); have hx8 := box_kept (heap_alloc_new wr _) hg8 hne; have hy8 := box_kept hyr hg8 (by omega); have e0 := heap_cell hx8 0; have e1 := heap_cell hx8 1; have e2 := heap_cell hx8 2; have e3 := heap_cell hx8 3; have e4 := heap_cell hx8 4; have e5 := heap_cell hx8 5; have e6 := heap_cell hx8 6; have y0 := heap_cell hy8 0; have y1 := heap_cell hy8 1; simp at e0 e1 e2 e3 e4 e5 e6 y0 y1)
                  | (go_at_call 134; refine (Q3.out _ (HT.out.on hbw8)).mono ?_; rintro e w9 ⟨rfl, hb9⟩))
                go_ret
                exact HBAD.out _ (by rw [HA.out]; rfl) (below_then hbw8 hb9)
              | true =>
                go_wp2_with (first
                  | (go_at_call 133; refine (Q1.out _).mono ?_; rintro e w7 ⟨rfl, rfl⟩)
                  | (go_at_call 86; refine (Q2.out _ (hmS.alloc _)).mono ?_; rintro e w8 ⟨rfl, hm8, hg8⟩; have hbw8 := (below_lit HBW.out _).grown hg8 (by have := HBW.out.size; simp; omega) (fun j hj => by injection hj with hj; omega); have hx8 := box_kept (heap_alloc_new wr _) hg8 hne; have hy8 := box_kept hyr hg8 (by omega); have e0 := heap_cell hx8 0; have e1 := heap_cell hx8 1; have e2 := heap_cell hx8 2; have e3 := heap_cell hx8 3; have e4 := heap_cell hx8 4; have e5 := heap_cell hx8 5; have e6 := heap_cell hx8 6; have y0 := heap_cell hy8 0; have y1 := heap_cell hy8 1; simp at e0 e1 e2 e3 e4 e5 e6 y0 y1)
                  | (go_at_call 134; refine (Q3.out _ (HT.out.on hbw8)).mono ?_; rintro e w9 ⟨rfl, hb9⟩; have hx9 := (hb9.block _ (Array.getElem?_eq_some_iff.1 hx8).1).trans hx8; have g0 := heap_cell hx9 0; simp at g0))
                have z8 := hg8.size
                rw [World.size_alloc] at z8
                refine ⟨⟨k + 1, by go_num, ?_, by omega, fun j y hj hy => ?_, (hm8.on hb9).eq (still_next (by simp [mdNames, HD0.out])), ?_⟩, by simp [intOf]; omega⟩
                · have : lastNo m.F (k + 1) = d.no := by unfold lastNo; rw [if_neg (by omega), Nat.add_sub_cancel, HD0.out]; rfl
                  rw [this]
                · by_cases hj2 : j < k
                  · exact HQ.out j y hj2 hy
                  · obtain rfl : j = k := by omega
                    rw [HD0.out] at hy
                    obtain rfl := Option.some.inj hy
                    rw [HA.out]; rfl
                · exact ((hb.alloc (by omega) _).grown hg8 (by simp; omega) (fun j hj => by injection hj with hj; omega)).trans (hb9.mono (by omega))
      · obtain rfl : k = m.F.length := by omega
        go_wp2
        go_ret
        exact ⟨true, rfl, ⟨fun _ => HI.out.2 ⟨h30, fun j d hd => HQ.out j d (List.getElem?_eq_some_iff.1 hd).1 hd⟩, fun _ => rfl⟩, hbw⟩
  · have hd : decide ((30 : Int) < (m.F.length : Int)) = true := by rw [decide_eq_true_eq]; omega
    have HN : Hid (¬ MdMay s m) := Lib.hid (fun h => h30 (HI.out.1 h).1)
    clear h30 HEA hnx
    go_enter Tryz.func87, Tryz.ntmps87
    go_wp2
    go_ret
    exact ⟨false, rfl, ⟨fun h => (by cases h), fun h => absurd h HN.out⟩, hb0⟩
end Go.Proofs.YtipaangiehdgkaaGreatDoor
