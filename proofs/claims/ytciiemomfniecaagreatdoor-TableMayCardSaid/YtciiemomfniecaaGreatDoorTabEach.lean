/-
  Sets that are made of lists: the contracts.
-/
import Derived.Test.YtciiemomfniecaaGreatDoorTabDrop
import Derived.Test.YtciiemomfniecaaGreatDoorTabKit
import Derived.Test.YtciiemomfniecaaGreatDoorRawSch
namespace Go.Proofs.YtciiemomfniecaaGreatDoor
set_option maxRecDepth 100000

open Go.RowKit Go.Maps

/-- Lists of names, one slice each, below B. -/
def LsS (B : Nat) (w : World) (ls : List (List (List UInt8))) (vs : List Value) : Prop := ∀ (k : Nat) l, ls[k]? = some l → ∃ A c, vs[k]? = some (Value.slice A l.length c) ∧ Sl w A l.length c 1 (strv l) ∧ ∀ ad, A = some ad → 0 < l.length → ad.block < B
def LsI (B : Nat) (w : World) (ls : List (List Int)) (vs : List Value) : Prop := ∀ (k : Nat) l, ls[k]? = some l → ∃ A c, vs[k]? = some (Value.slice A l.length c) ∧ Sl w A l.length c 1 (intv l) ∧ ∀ ad, A = some ad → 0 < l.length → ad.block < B
theorem put_next {α : Type} [DecidableEq α] [BEq α] [LawfulBEq α] {p : α → Bool} {l : List α} {k : Nat} {x : α} (h : l[k]? = some x) : (fun y => (p y || (l.take k).contains y) || decide (y = x)) = fun y => p y || (l.take (k + 1)).contains y := by
  funext y
  rw [List.take_add_one, h]
  by_cases hy : y = x
  · subst hy; simp
  · simp [hy]
theorem flat_next {α : Type} [BEq α] [LawfulBEq α] {ls : List (List α)} {k : Nat} {l : List α} (h : ls[k]? = some l) : (fun y => (ls.take k).flatten.contains y || l.contains y) = fun y => (ls.take (k + 1)).flatten.contains y := by
  funext y
  rw [List.take_add_one, h]
  simp
theorem flats_len {α : Type} {ls : List (List α)} {k : Nat} {l : List α} (h : ls[k]? = some l) : (ls.take (k + 1)).flatten.length = (ls.take k).flatten.length + l.length := by
  rw [List.take_add_one, h]
  simp
theorem flats_le {α : Type} (ls : List (List α)) (k : Nat) : (ls.take k).flatten.length ≤ ls.flatten.length := by
  conv => rhs; rw [← List.take_append_drop k ls, List.flatten_append, List.length_append]
  omega
set_option maxRecDepth 1000000 in
set_option maxHeartbeats 2000000 in
theorem freeOfS_any (A : Option Addr) (c : Nat) (ls : List (List (List UInt8))) (vs : List Value) (w : World) (hs : Sl w A ls.length c 1 vs) (hv : LsS w.heap.size w ls vs) (hn : ls.flatten.length ≤ 100000) (hx : ∀ l ∈ ls, ∀ x ∈ l, x.length ≤ maxLen) (hl : ls.length ≤ 1000) :
    Calls Tryz.prog 69 #[.slice A ls.length c] w fun e w' => e = .returned (.map (some w.heap.size)) ∧ FreeS w' w.heap.size ls.flatten.length (fun y => ls.flatten.contains y) ∧ Below w.heap.size w w' := by
  have HS := Lib.hid hs
  have HV := Lib.hid hv
  have HX := Lib.hid hx
  have HLE := Lib.hid (flats_le ls)
  clear hs hv hx
  have hmm := @run_makeMap Tryz.prog
  go_enter Tryz.func69, Tryz.ntmps69
  go_wp2
  go_loopw [11] (fun i wr => ∃ k : Nat, i = .int .i64 k ∧ k ≤ ls.length ∧ FreeS wr w.heap.size (ls.take k).flatten.length (fun y => (ls.take k).flatten.contains y) ∧ Below w.heap.size w wr) (fun i _ => ls.length - (intOf i).toNat)
  case atStart => exact ⟨0, rfl, by omega, Free.made w, below_new w _⟩
  case round =>
    obtain ⟨k, rfl, hk, hm, hb⟩ := hrel
    by_cases hlt : k < ls.length
    · obtain ⟨l, hl0⟩ : ∃ l, ls[k]? = some l := ⟨_, List.getElem?_eq_getElem hlt⟩
      obtain ⟨Al, cl, hvk, hsl, hAl⟩ := HV.out k l hl0
      obtain ⟨ad, rfl, hab, hc⟩ := Sl.there (HS.out.on hb) (by omega)
      have hck := hc k _ hvk
      have HN := Lib.hid (flat_next hl0)
      have HLN := Lib.hid (flats_len hl0)
      have HXl := Lib.hid (HX.out l (List.mem_of_getElem? hl0))
      have HSL := Lib.hid hsl
      have hll : (ls.take k).flatten.length + l.length ≤ 100000 := by
        have h1 := HLN.out
        have h2 := HLE.out (k + 1)
        omega
      generalize (ls.take k).flatten = F at *
      clear hvk hc hsl hl0
      go_wp2
      go_loopw [17] (fun i wy => ∃ j : Nat, i = .int .i64 j ∧ j ≤ l.length ∧ FreeS wy w.heap.size (F.length + j) (fun y => F.contains y || (l.take j).contains y) ∧ Below w.heap.size w wy) (fun i _ => l.length - (intOf i).toNat)
      case atStart => exact ⟨0, rfl, by omega, hm.eq (by funext y; simp), hb⟩
      case round =>
        obtain ⟨j, rfl, hj, hm, hb⟩ := hrel
        by_cases hlt2 : j < l.length
        · obtain ⟨x, hx⟩ : ∃ x, l[j]? = some x := ⟨_, List.getElem?_eq_getElem hlt2⟩
          obtain ⟨ad2, rfl, hab2, hc2⟩ := strr_at (HSL.out.on hb) hx
          have hxl := HXl.out x (List.mem_of_getElem? hx)
          have HP := Lib.hid (put_next (p := fun y => F.contains y) hx)
          clear hx
          go_wp2_with (at_mapUpdate; refine wpList_free_put rfl _ _ _ 91 160 rfl kS_law Tryz.underlying91 kS_inj kS_lit w.heap.size _ _ rfl hm (by omega) _ x rfl rfl (kS_key hxl) ?_; intro w3 h3 hg3)
          exact ⟨⟨j + 1, by go_num, by omega, h3.eq HP.out, hb.grown hg3 hb.size (fun q hq => by injection hq with hq; omega)⟩, by simp [intOf]; omega⟩
        · obtain rfl : j = l.length := by omega
          rw [List.take_length] at hm
          go_wp2
          exact ⟨⟨k + 1, by go_num, by omega, by rw [HLN.out]; exact hm.eq HN.out, hb⟩, by simp [intOf]; omega⟩
    · obtain rfl : k = ls.length := by omega
      rw [List.take_length] at hm
      go_wp2
      go_ret
      exact ⟨rfl, hm, hb⟩
set_option maxRecDepth 1000000 in
set_option maxHeartbeats 2000000 in
theorem freeOfI_any (A : Option Addr) (c : Nat) (ls : List (List Int)) (vs : List Value) (w : World) (hs : Sl w A ls.length c 1 vs) (hv : LsI w.heap.size w ls vs) (hn : ls.flatten.length ≤ 100000) (hx : ∀ l ∈ ls, ∀ x ∈ l, inr x) (hl : ls.length ≤ 1000) :
    Calls Tryz.prog 73 #[.slice A ls.length c] w fun e w' => e = .returned (.map (some w.heap.size)) ∧ FreeI w' w.heap.size ls.flatten.length (fun y => ls.flatten.contains y) ∧ Below w.heap.size w w' := by
  have HS := Lib.hid hs
  have HV := Lib.hid hv
  have HX := Lib.hid hx
  have HLE := Lib.hid (flats_le ls)
  clear hs hv hx
  have hmm := @run_makeMap Tryz.prog
  go_enter Tryz.func73, Tryz.ntmps73
  go_wp2
  go_loopw [11] (fun i wr => ∃ k : Nat, i = .int .i64 k ∧ k ≤ ls.length ∧ FreeI wr w.heap.size (ls.take k).flatten.length (fun y => (ls.take k).flatten.contains y) ∧ Below w.heap.size w wr) (fun i _ => ls.length - (intOf i).toNat)
  case atStart => exact ⟨0, rfl, by omega, Free.made w, below_new w _⟩
  case round =>
    obtain ⟨k, rfl, hk, hm, hb⟩ := hrel
    by_cases hlt : k < ls.length
    · obtain ⟨l, hl0⟩ : ∃ l, ls[k]? = some l := ⟨_, List.getElem?_eq_getElem hlt⟩
      obtain ⟨Al, cl, hvk, hsl, hAl⟩ := HV.out k l hl0
      obtain ⟨ad, rfl, hab, hc⟩ := Sl.there (HS.out.on hb) (by omega)
      have hck := hc k _ hvk
      have HN := Lib.hid (flat_next hl0)
      have HLN := Lib.hid (flats_len hl0)
      have HXl := Lib.hid (HX.out l (List.mem_of_getElem? hl0))
      have HSL := Lib.hid hsl
      have hll : (ls.take k).flatten.length + l.length ≤ 100000 := by
        have h1 := HLN.out
        have h2 := HLE.out (k + 1)
        omega
      generalize (ls.take k).flatten = F at *
      clear hvk hc hsl hl0
      go_wp2
      go_loopw [17] (fun i wy => ∃ j : Nat, i = .int .i64 j ∧ j ≤ l.length ∧ FreeI wy w.heap.size (F.length + j) (fun y => F.contains y || (l.take j).contains y) ∧ Below w.heap.size w wy) (fun i _ => l.length - (intOf i).toNat)
      case atStart => exact ⟨0, rfl, by omega, hm.eq (by funext y; simp), hb⟩
      case round =>
        obtain ⟨j, rfl, hj, hm, hb⟩ := hrel
        by_cases hlt2 : j < l.length
        · obtain ⟨x, hx⟩ : ∃ x, l[j]? = some x := ⟨_, List.getElem?_eq_getElem hlt2⟩
          obtain ⟨ad2, rfl, hab2, hc2⟩ := intr_at (HSL.out.on hb) hx
          have hxl := HXl.out x (List.mem_of_getElem? hx)
          have HP := Lib.hid (put_next (p := fun y => F.contains y) hx)
          clear hx
          go_wp2_with (at_mapUpdate; refine wpList_free_put rfl _ _ _ 132 160 rfl kI_law Tryz.underlying132 kI_inj kI_lit w.heap.size _ _ rfl hm (by omega) _ x rfl rfl (kI_key hxl) ?_; intro w3 h3 hg3)
          exact ⟨⟨j + 1, by go_num, by omega, h3.eq HP.out, hb.grown hg3 hb.size (fun q hq => by injection hq with hq; omega)⟩, by simp [intOf]; omega⟩
        · obtain rfl : j = l.length := by omega
          rw [List.take_length] at hm
          go_wp2
          exact ⟨⟨k + 1, by go_num, by omega, by rw [HLN.out]; exact hm.eq HN.out, hb⟩, by simp [intOf]; omega⟩
    · obtain rfl : k = ls.length := by omega
      rw [List.take_length] at hm
      go_wp2
      go_ret
      exact ⟨rfl, hm, hb⟩
theorem drop_nextP {p : List UInt8 → Bool} {k : Nat} {q : List UInt8 × Nat} (h : plainsL[k]? = some q) : (fun y => (p y && !((plainsL.map (·.1)).take k).contains y) && decide (y ≠ q.1)) = fun y => p y && !((plainsL.map (·.1)).take (k + 1)).contains y :=
  drop_next (l := plainsL.map (·.1)) (by rw [List.getElem?_map, h]; rfl)
theorem plain_short {k : Nat} {q : List UInt8 × Nat} (h : plainsL[k]? = some q) : q.1.length ≤ maxLen := by
  have : ∀ q ∈ plainsL, q.1.length ≤ 8 := by decide
  have := this q (List.mem_of_getElem? h)
  unfold maxLen
  omega
set_option maxRecDepth 1000000 in
set_option maxHeartbeats 2000000 in
theorem typeNames_any (v1 v2 : Value) (l1 l2 : List (List UInt8)) (w : World) (T : Tabs w) (h1 : Rb w.heap.size w v1 l1.length 1 (strv l1)) (h2 : Rb w.heap.size w v2 l2.length 1 (strv l2)) (hn : l1.length + l2.length ≤ 100000) (hx : ∀ x ∈ l1 ++ l2, x.length ≤ maxLen) :
    Calls Tryz.prog 44 #[v1, v2] w fun e w' => ∃ b, e = .returned (.map (some b)) ∧ w.heap.size ≤ b ∧ FreeS w' b (l1.length + l2.length) (stillT (l1 ++ l2) 0) ∧ Below w.heap.size w w' := by
  obtain ⟨A1, c1, rfl, s1, a1⟩ := h1
  obtain ⟨A2, c2, rfl, s2, a2⟩ := h2
  have hbw := below_new w (.cells #[.slice A1 l1.length c1, .slice A2 l2.length c2] 48)
  have hF := freeOfS_any (some ⟨w.heap.size, 0, none⟩) 2 [l1, l2] [.slice A1 l1.length c1, .slice A2 l2.length c2] (w.alloc (.cells #[.slice A1 l1.length c1, .slice A2 l2.length c2] 48)) (Sl.new w [.slice A1 l1.length c1, .slice A2 l2.length c2] _ (by unfold maxLen; simp)) (by
    intro k l hk
    match k, hk with
    | 0, hk =>
      obtain rfl : l1 = l := by simpa using hk
      exact ⟨A1, c1, rfl, s1.on hbw, fun ad ha hp => Nat.lt_of_lt_of_le (a1 ad ha hp) hbw.size⟩
    | 1, hk =>
      obtain rfl : l2 = l := by simpa using hk
      exact ⟨A2, c2, rfl, s2.on hbw, fun ad ha hp => Nat.lt_of_lt_of_le (a2 ad ha hp) hbw.size⟩
    | k + 2, hk => simp at hk) (by simpa using hn) (by
    intro l hl x hxl
    refine hx x (List.mem_append.2 ?_)
    rcases List.mem_cons.1 hl with rfl | hl
    · exact .inl hxl
    · obtain rfl : l = l2 := by simpa using hl
      exact .inr hxl) (by simp)
  have HF := Lib.hid hF
  have HST := Lib.hid (still_start (l1 ++ l2) (plainsL.map (·.1)))
  clear hF s1 s2 a1 a2 hx
  have HBW := Lib.hid hbw
  have HT := Lib.hid (T.on hbw)
  clear hbw T
  go_enter Tryz.func44, Tryz.ntmps44
  go_wp2_with (first
    | (go_at_call 69; refine HF.out.mono ?_; rintro e w2 ⟨rfl, hm2, hb2⟩; obtain ⟨tt, fr, hT⟩ := (HT.out.on hb2).plains)
    | (refine wpList_load_row rfl 88 _ rfl 0 rfl tt _ fr _ hT Tryz.underlying88 rfl (by kernel_rfl) ?_))
  have hbb : Below w.heap.size w w2 := HBW.out.trans (hb2.mono HBW.out.size)
  have hm3 : FreeS w2 (w.heap.size + 1) (l1.length + l2.length) (fun y => (l1 ++ l2).contains y) := by
    have e : (w.alloc (.cells #[.slice A1 l1.length c1, .slice A2 l2.length c2] 48)).heap.size = w.heap.size + 1 := by simp
    rw [e] at hm2
    have e2 : [l1, l2].flatten = l1 ++ l2 := by simp
    rw [e2] at hm2
    exact hm2.mono (by simp)
  clear hm2 hb2 hT
  go_loopw [13] (fun i wr => ∃ k : Nat, i = .int .i64 k ∧ k ≤ 8 ∧ FreeS wr (w.heap.size + 1) (l1.length + l2.length) (fun y => (l1 ++ l2).contains y && !((plainsL.map (·.1)).take k).contains y) ∧ Below w.heap.size w wr) (fun i _ => 8 - (intOf i).toNat)
  case atStart => exact ⟨0, rfl, by omega, hm3.eq (by funext y; simp), hbb⟩
  case round =>
    obtain ⟨k, rfl, hk, hm, hb⟩ := hrel
    by_cases hlt : k < 8
    · obtain ⟨q, hq⟩ : ∃ q, plainsL[k]? = some q := ⟨_, List.getElem?_eq_getElem hlt⟩
      have hi := index_plain wr hq
      have hql := plain_short hq
      have HN := Lib.hid (drop_nextP (p := fun y => (l1 ++ l2).contains y) hq)
      clear hq
      go_wp2_with (at_delete; refine wpList_free_del rfl _ _ 91 160 rfl kS_law Tryz.underlying91 kS_inj (w.heap.size + 1) _ _ rfl (hm.alloc _) _ q.1 rfl (kS_key hql) ?_; intro w3 h3 hg3)
      exact ⟨⟨k + 1, by go_num, by omega, h3.eq HN.out, (below_lit hb _).grown hg3 (by have := hb.size; simp; omega) (fun j hj => by injection hj with hj; omega)⟩, by simp [intOf]; omega⟩
    · obtain rfl : k = 8 := by omega
      go_wp2
      go_ret
      refine ⟨w.heap.size + 1, rfl, by omega, hm.eq ?_, hb⟩
      unfold stillT
      rw [HST.out]
      rfl
end Go.Proofs.YtciiemomfniecaaGreatDoor
/-
  What is told of each element of a list: the contracts of the nine instances of one function.
-/
namespace Go.Proofs.YtciiemomfniecaaGreatDoor
set_option maxRecDepth 100000

open Go.RowKit

theorem strv_next {α : Type} (g : α → List UInt8) {l : List α} {k : Nat} {x : α} (h : l[k]? = some x) : strv ((l.take k).map g) ++ [.string (txt (g x))] = strv ((l.take (k + 1)).map g) := by
  rw [List.take_add_one, h]; simp [strv]
theorem intv_next {α : Type} (g : α → Int) {l : List α} {k : Nat} {x : α} (h : l[k]? = some x) : intv ((l.take k).map g) ++ [.int .i64 (g x)] = intv ((l.take (k + 1)).map g) := by
  rw [List.take_add_one, h]; simp [intv]
theorem clo_eachMs_any (m : Ms) (a1 : Option Addr) (n1 k1 : Nat) (a2 : Option Addr) (n2 k2 : Nat) (a3 : Option Addr) (n3 k3 : Nat) (w : World) : Calls Tryz.prog 65 #[.agg #[.string (txt m.name), .slice a1 n1 k1, .slice a2 n2 k2, .slice a3 n3 k3, .int .i64 m.at_]] w fun e w' => e = .returned (.string (txt m.name)) ∧ w' = w.alloc (.cells #[.string (txt m.name), .slice a1 n1 k1, .slice a2 n2 k2, .slice a3 n3 k3, .int .i64 m.at_] 51) := by
  go_enter Tryz.func65, Tryz.ntmps65
  go_wp2
  go_ret
  exact ⟨rfl, rfl⟩
set_option maxRecDepth 1000000 in
set_option maxHeartbeats 2000000 in
theorem eachMs_any (B : Nat) (v : Value) (xs : List Value) (l : List Ms) (hl : l.length ≤ 100000) (w : World) (hB : B ≤ w.heap.size) (hr : Rb B w v l.length 5 xs) (ha : MsAt B w l xs) :
    Calls Tryz.prog 64 #[v, .func (.func 65) #[] #[]] w fun e w' => ∃ v', e = .returned v' ∧ w'.ownsRow w.heap.size 9 1 v' l.length (strv (l.map (·.name))) ∧ Below w.heap.size w w' := by
  obtain ⟨A, c, rfl, hs, hA⟩ := hr
  obtain ⟨i0, hi, hz0, hz1, hz2⟩ := info_parts infoStrs
  have HS := Lib.hid hs
  have HA := Lib.hid ha
  clear hs ha
  go_enter Tryz.func64, Tryz.ntmps64
  go_wp2_with (at_make; refine wpList_make_own _ rfl _ _ 48 rfl w.heap.size 9 i0 _ 1 Tryz.underlying48 hi hz0 hz1 _ _ _ l.length rfl rfl rfl (by rw [hz2]; omega) (by unfold maxLen; omega) (Nat.le_refl _) ?_; intro w1 hown1 hg1)
  have hb1 : Below w.heap.size w w1 := (Below.refl w.heap.size w).grown hg1 (Nat.le_refl _) (fun k hk => by cases hk)
  go_loopw [5, 13] (fun o i wr => ∃ k : Nat, i = .int .i64 k ∧ k ≤ l.length ∧ wr.ownsRow w.heap.size 9 1 o k (strv ((l.take k).map (·.name))) ∧ Below w.heap.size w wr) (fun _ i _ => l.length - (intOf i).toNat)
  case atStart => exact ⟨0, rfl, by omega, hown1, hb1⟩
  case round =>
    obtain ⟨k, rfl, hk, hown, hb⟩ := hrel
    by_cases hlt : k < l.length
    · obtain ⟨m, hm⟩ : ∃ m, l[k]? = some m := ⟨_, List.getElem?_eq_getElem hlt⟩
      obtain ⟨ad, vF, vO, vR, rfl, _, hmr, c0, c1, c2, c3, c4⟩ := msr_at (HS.out.low hA (Low.below hb hB)) (HA.out.low (Low.below hb hB)) hm
      obtain ⟨_, _, rfl, -, -⟩ := hmr.f
      obtain ⟨_, _, rfl, -, -⟩ := hmr.o
      obtain ⟨_, _, rfl, -, -⟩ := hmr.r
      have HN := Lib.hid (strv_next (·.name) hm)
      clear hm
      go_wp2_with (first
        | (at_builtin; refine wpList_app1 rfl _ _ 48 rfl w.heap.size 9 i0 _ 16 Tryz.underlying48 hi hz0 hz1 hz2 rfl _ k _ rfl (((hown.alloc _).alloc _).alloc _) _ 1 (.string (txt m.name)) rfl (World.cell?_alloc_at _ _ _ _ (by simp)) rfl (by unfold maxLen; omega) (by omega) (by have := hb.size; simp; omega) ?_; intro v3 w3 hown3 hg3)
        | (go_at_call 65; refine (clo_eachMs_any m _ _ _ _ _ _ _ _ _ _).mono ?_; rintro e w2 ⟨rfl, rfl⟩))
      rw [HN.out] at hown3
      exact ⟨⟨k + 1, by go_num, by omega, hown3, (below_lit (below_lit (below_lit hb _) _) _).grown hg3 (by have := hb.size; simp; omega) (own_ge hown)⟩, by simp [intOf]; omega⟩
    · obtain rfl : k = l.length := by omega
      rw [List.take_length] at hown
      go_wp2
      go_ret
      exact ⟨_, rfl, hown, hb⟩
theorem clo_eachEn_any (m : En) (a1 : Option Addr) (n1 k1 : Nat) (w : World) : Calls Tryz.prog 67 #[.agg #[.string (txt m.name), .slice a1 n1 k1, .int .i64 m.at_]] w fun e w' => e = .returned (.string (txt m.name)) ∧ w' = w.alloc (.cells #[.string (txt m.name), .slice a1 n1 k1, .int .i64 m.at_] 65) := by
  go_enter Tryz.func67, Tryz.ntmps67
  go_wp2
  go_ret
  exact ⟨rfl, rfl⟩
set_option maxRecDepth 1000000 in
set_option maxHeartbeats 2000000 in
theorem eachEn_any (B : Nat) (v : Value) (xs : List Value) (l : List En) (hl : l.length ≤ 100000) (w : World) (hB : B ≤ w.heap.size) (hr : Rb B w v l.length 3 xs) (ha : EnAt B w l xs) :
    Calls Tryz.prog 66 #[v, .func (.func 67) #[] #[]] w fun e w' => ∃ v', e = .returned v' ∧ w'.ownsRow w.heap.size 9 1 v' l.length (strv (l.map (·.name))) ∧ Below w.heap.size w w' := by
  obtain ⟨A, c, rfl, hs, hA⟩ := hr
  obtain ⟨i0, hi, hz0, hz1, hz2⟩ := info_parts infoStrs
  have HS := Lib.hid hs
  have HA := Lib.hid ha
  clear hs ha
  go_enter Tryz.func66, Tryz.ntmps66
  go_wp2_with (at_make; refine wpList_make_own _ rfl _ _ 48 rfl w.heap.size 9 i0 _ 1 Tryz.underlying48 hi hz0 hz1 _ _ _ l.length rfl rfl rfl (by rw [hz2]; omega) (by unfold maxLen; omega) (Nat.le_refl _) ?_; intro w1 hown1 hg1)
  have hb1 : Below w.heap.size w w1 := (Below.refl w.heap.size w).grown hg1 (Nat.le_refl _) (fun k hk => by cases hk)
  go_loopw [5, 13] (fun o i wr => ∃ k : Nat, i = .int .i64 k ∧ k ≤ l.length ∧ wr.ownsRow w.heap.size 9 1 o k (strv ((l.take k).map (·.name))) ∧ Below w.heap.size w wr) (fun _ i _ => l.length - (intOf i).toNat)
  case atStart => exact ⟨0, rfl, by omega, hown1, hb1⟩
  case round =>
    obtain ⟨k, rfl, hk, hown, hb⟩ := hrel
    by_cases hlt : k < l.length
    · obtain ⟨m, hm⟩ : ∃ m, l[k]? = some m := ⟨_, List.getElem?_eq_getElem hlt⟩
      obtain ⟨ad, vV, rfl, _, hmr, c0, c1, c2⟩ := enr_at (HS.out.low hA (Low.below hb hB)) (HA.out.low (Low.below hb hB)) hm
      obtain ⟨_, _, rfl, -, -⟩ := hmr
      have HN := Lib.hid (strv_next (·.name) hm)
      clear hm
      go_wp2_with (first
        | (at_builtin; refine wpList_app1 rfl _ _ 48 rfl w.heap.size 9 i0 _ 16 Tryz.underlying48 hi hz0 hz1 hz2 rfl _ k _ rfl (((hown.alloc _).alloc _).alloc _) _ 1 (.string (txt m.name)) rfl (World.cell?_alloc_at _ _ _ _ (by simp)) rfl (by unfold maxLen; omega) (by omega) (by have := hb.size; simp; omega) ?_; intro v3 w3 hown3 hg3)
        | (go_at_call 67; refine (clo_eachEn_any m _ _ _ _).mono ?_; rintro e w2 ⟨rfl, rfl⟩))
      rw [HN.out] at hown3
      exact ⟨⟨k + 1, by go_num, by omega, hown3, (below_lit (below_lit (below_lit hb _) _) _).grown hg3 (by have := hb.size; simp; omega) (own_ge hown)⟩, by simp [intOf]; omega⟩
    · obtain rfl : k = l.length := by omega
      rw [List.take_length] at hown
      go_wp2
      go_ret
      exact ⟨_, rfl, hown, hb⟩
theorem clo_eachMd_any (m : Md) (a1 : Option Addr) (n1 k1 : Nat) (w : World) : Calls Tryz.prog 46 #[.agg #[.string (txt m.name), .slice a1 n1 k1]] w fun e w' => e = .returned (.string (txt m.name)) ∧ w' = w.alloc (.cells #[.string (txt m.name), .slice a1 n1 k1] 56) := by
  go_enter Tryz.func46, Tryz.ntmps46
  go_wp2
  go_ret
  exact ⟨rfl, rfl⟩
set_option maxRecDepth 1000000 in
set_option maxHeartbeats 2000000 in
theorem eachMd_any (B : Nat) (v : Value) (xs : List Value) (l : List Md) (hl : l.length ≤ 100000) (w : World) (hB : B ≤ w.heap.size) (hr : Rb B w v l.length 2 xs) (ha : MdsAt B w l xs) :
    Calls Tryz.prog 45 #[v, .func (.func 46) #[] #[]] w fun e w' => ∃ v', e = .returned v' ∧ w'.ownsRow w.heap.size 9 1 v' l.length (strv (l.map (·.name))) ∧ Below w.heap.size w w' := by
  obtain ⟨A, c, rfl, hs, hA⟩ := hr
  obtain ⟨i0, hi, hz0, hz1, hz2⟩ := info_parts infoStrs
  have HS := Lib.hid hs
  have HA := Lib.hid ha
  clear hs ha
  go_enter Tryz.func45, Tryz.ntmps45
  go_wp2_with (at_make; refine wpList_make_own _ rfl _ _ 48 rfl w.heap.size 9 i0 _ 1 Tryz.underlying48 hi hz0 hz1 _ _ _ l.length rfl rfl rfl (by rw [hz2]; omega) (by unfold maxLen; omega) (Nat.le_refl _) ?_; intro w1 hown1 hg1)
  have hb1 : Below w.heap.size w w1 := (Below.refl w.heap.size w).grown hg1 (Nat.le_refl _) (fun k hk => by cases hk)
  go_loopw [5, 13] (fun o i wr => ∃ k : Nat, i = .int .i64 k ∧ k ≤ l.length ∧ wr.ownsRow w.heap.size 9 1 o k (strv ((l.take k).map (·.name))) ∧ Below w.heap.size w wr) (fun _ i _ => l.length - (intOf i).toNat)
  case atStart => exact ⟨0, rfl, by omega, hown1, hb1⟩
  case round =>
    obtain ⟨k, rfl, hk, hown, hb⟩ := hrel
    by_cases hlt : k < l.length
    · obtain ⟨m, hm⟩ : ∃ m, l[k]? = some m := ⟨_, List.getElem?_eq_getElem hlt⟩
      obtain ⟨ad, vF, rfl, _, hmr, c0, c1⟩ := mdr_at (HS.out.low hA (Low.below hb hB)) (HA.out.low (Low.below hb hB)) hm
      obtain ⟨_, _, rfl, -, -⟩ := hmr
      have HN := Lib.hid (strv_next (·.name) hm)
      clear hm
      go_wp2_with (first
        | (at_builtin; refine wpList_app1 rfl _ _ 48 rfl w.heap.size 9 i0 _ 16 Tryz.underlying48 hi hz0 hz1 hz2 rfl _ k _ rfl (((hown.alloc _).alloc _).alloc _) _ 1 (.string (txt m.name)) rfl (World.cell?_alloc_at _ _ _ _ (by simp)) rfl (by unfold maxLen; omega) (by omega) (by have := hb.size; simp; omega) ?_; intro v3 w3 hown3 hg3)
        | (go_at_call 46; refine (clo_eachMd_any m _ _ _ _).mono ?_; rintro e w2 ⟨rfl, rfl⟩))
      rw [HN.out] at hown3
      exact ⟨⟨k + 1, by go_num, by omega, hown3, (below_lit (below_lit (below_lit hb _) _) _).grown hg3 (by have := hb.size; simp; omega) (own_ge hown)⟩, by simp [intOf]; omega⟩
    · obtain rfl : k = l.length := by omega
      rw [List.take_length] at hown
      go_wp2
      go_ret
      exact ⟨_, rfl, hown, hb⟩
theorem clo_eachEd_any (m : Ed) (a1 : Option Addr) (n1 k1 : Nat) (a2 : Option Addr) (n2 k2 : Nat) (w : World) : Calls Tryz.prog 48 #[.agg #[.string (txt m.name), .slice a1 n1 k1, .slice a2 n2 k2]] w fun e w' => e = .returned (.string (txt m.name)) ∧ w' = w.alloc (.cells #[.string (txt m.name), .slice a1 n1 k1, .slice a2 n2 k2] 68) := by
  go_enter Tryz.func48, Tryz.ntmps48
  go_wp2
  go_ret
  exact ⟨rfl, rfl⟩
set_option maxRecDepth 1000000 in
set_option maxHeartbeats 2000000 in
theorem eachEd_any (B : Nat) (v : Value) (xs : List Value) (l : List Ed) (hl : l.length ≤ 100000) (w : World) (hB : B ≤ w.heap.size) (hr : Rb B w v l.length 3 xs) (ha : EdsAt B w l xs) :
    Calls Tryz.prog 47 #[v, .func (.func 48) #[] #[]] w fun e w' => ∃ v', e = .returned v' ∧ w'.ownsRow w.heap.size 9 1 v' l.length (strv (l.map (·.name))) ∧ Below w.heap.size w w' := by
  obtain ⟨A, c, rfl, hs, hA⟩ := hr
  obtain ⟨i0, hi, hz0, hz1, hz2⟩ := info_parts infoStrs
  have HS := Lib.hid hs
  have HA := Lib.hid ha
  clear hs ha
  go_enter Tryz.func47, Tryz.ntmps47
  go_wp2_with (at_make; refine wpList_make_own _ rfl _ _ 48 rfl w.heap.size 9 i0 _ 1 Tryz.underlying48 hi hz0 hz1 _ _ _ l.length rfl rfl rfl (by rw [hz2]; omega) (by unfold maxLen; omega) (Nat.le_refl _) ?_; intro w1 hown1 hg1)
  have hb1 : Below w.heap.size w w1 := (Below.refl w.heap.size w).grown hg1 (Nat.le_refl _) (fun k hk => by cases hk)
  go_loopw [5, 13] (fun o i wr => ∃ k : Nat, i = .int .i64 k ∧ k ≤ l.length ∧ wr.ownsRow w.heap.size 9 1 o k (strv ((l.take k).map (·.name))) ∧ Below w.heap.size w wr) (fun _ i _ => l.length - (intOf i).toNat)
  case atStart => exact ⟨0, rfl, by omega, hown1, hb1⟩
  case round =>
    obtain ⟨k, rfl, hk, hown, hb⟩ := hrel
    by_cases hlt : k < l.length
    · obtain ⟨m, hm⟩ : ∃ m, l[k]? = some m := ⟨_, List.getElem?_eq_getElem hlt⟩
      obtain ⟨ad, vV, vN, rfl, _, hmr, hms, c0, c1, c2⟩ := edr_at (HS.out.low hA (Low.below hb hB)) (HA.out.low (Low.below hb hB)) hm
      obtain ⟨_, _, rfl, -, -⟩ := hmr
      obtain ⟨_, _, rfl, -, -⟩ := hms
      have HN := Lib.hid (strv_next (·.name) hm)
      clear hm
      go_wp2_with (first
        | (at_builtin; refine wpList_app1 rfl _ _ 48 rfl w.heap.size 9 i0 _ 16 Tryz.underlying48 hi hz0 hz1 hz2 rfl _ k _ rfl (((hown.alloc _).alloc _).alloc _) _ 1 (.string (txt m.name)) rfl (World.cell?_alloc_at _ _ _ _ (by simp)) rfl (by unfold maxLen; omega) (by omega) (by have := hb.size; simp; omega) ?_; intro v3 w3 hown3 hg3)
        | (go_at_call 48; refine (clo_eachEd_any m _ _ _ _ _ _ _).mono ?_; rintro e w2 ⟨rfl, rfl⟩))
      rw [HN.out] at hown3
      exact ⟨⟨k + 1, by go_num, by omega, hown3, (below_lit (below_lit (below_lit hb _) _) _).grown hg3 (by have := hb.size; simp; omega) (own_ge hown)⟩, by simp [intOf]; omega⟩
    · obtain rfl : k = l.length := by omega
      rw [List.take_length] at hown
      go_wp2
      go_ret
      exact ⟨_, rfl, hown, hb⟩
theorem clo_eachFdN_any (m : Fd) (w : World) : Calls Tryz.prog 71 #[.agg #[.string (txt m.type), .string (txt m.key), .bool m.rep, .int .i64 m.one, .string (txt m.name), .int .i64 m.no, .int .i64 m.at_]] w fun e w' => e = .returned (.string (txt m.name)) ∧ w' = w.alloc (.cells #[.string (txt m.type), .string (txt m.key), .bool m.rep, .int .i64 m.one, .string (txt m.name), .int .i64 m.no, .int .i64 m.at_] 53) := by
  go_enter Tryz.func71, Tryz.ntmps71
  go_wp2
  go_ret
  exact ⟨rfl, rfl⟩
set_option maxRecDepth 1000000 in
set_option maxHeartbeats 2000000 in
theorem eachFdN_any (B : Nat) (v : Value) (l : List Fd) (hl : l.length ≤ 100000) (w : World) (hB : B ≤ w.heap.size) (hr : Rb B w v l.length 7 (fdv l)) :
    Calls Tryz.prog 70 #[v, .func (.func 71) #[] #[]] w fun e w' => ∃ v', e = .returned v' ∧ w'.ownsRow w.heap.size 9 1 v' l.length (strv (l.map (·.name))) ∧ Below w.heap.size w w' := by
  obtain ⟨A, c, rfl, hs, hA⟩ := hr
  obtain ⟨i0, hi, hz0, hz1, hz2⟩ := info_parts infoStrs
  have HS := Lib.hid hs
  clear hs
  go_enter Tryz.func70, Tryz.ntmps70
  go_wp2_with (at_make; refine wpList_make_own _ rfl _ _ 48 rfl w.heap.size 9 i0 _ 1 Tryz.underlying48 hi hz0 hz1 _ _ _ l.length rfl rfl rfl (by rw [hz2]; omega) (by unfold maxLen; omega) (Nat.le_refl _) ?_; intro w1 hown1 hg1)
  have hb1 : Below w.heap.size w w1 := (Below.refl w.heap.size w).grown hg1 (Nat.le_refl _) (fun k hk => by cases hk)
  go_loopw [5, 13] (fun o i wr => ∃ k : Nat, i = .int .i64 k ∧ k ≤ l.length ∧ wr.ownsRow w.heap.size 9 1 o k (strv ((l.take k).map (·.name))) ∧ Below w.heap.size w wr) (fun _ i _ => l.length - (intOf i).toNat)
  case atStart => exact ⟨0, rfl, by omega, hown1, hb1⟩
  case round =>
    obtain ⟨k, rfl, hk, hown, hb⟩ := hrel
    by_cases hlt : k < l.length
    · obtain ⟨m, hm⟩ : ∃ m, l[k]? = some m := ⟨_, List.getElem?_eq_getElem hlt⟩
      obtain ⟨ad, rfl, _, c0, c1, c2, c3, c4, c5, c6⟩ := fdr_at (HS.out.low hA (Low.below hb hB)) hm
      have HN := Lib.hid (strv_next (·.name) hm)
      clear hm
      go_wp2_with (first
        | (at_builtin; refine wpList_app1 rfl _ _ 48 rfl w.heap.size 9 i0 _ 16 Tryz.underlying48 hi hz0 hz1 hz2 rfl _ k _ rfl (((hown.alloc _).alloc _).alloc _) _ 1 (.string (txt m.name)) rfl (World.cell?_alloc_at _ _ _ _ (by simp)) rfl (by unfold maxLen; omega) (by omega) (by have := hb.size; simp; omega) ?_; intro v3 w3 hown3 hg3)
        | (go_at_call 71; refine (clo_eachFdN_any m _).mono ?_; rintro e w2 ⟨rfl, rfl⟩))
      rw [HN.out] at hown3
      exact ⟨⟨k + 1, by go_num, by omega, hown3, (below_lit (below_lit (below_lit hb _) _) _).grown hg3 (by have := hb.size; simp; omega) (own_ge hown)⟩, by simp [intOf]; omega⟩
    · obtain rfl : k = l.length := by omega
      rw [List.take_length] at hown
      go_wp2
      go_ret
      exact ⟨_, rfl, hown, hb⟩
theorem clo_eachFdI_any (m : Fd) (w : World) : Calls Tryz.prog 75 #[.agg #[.string (txt m.type), .string (txt m.key), .bool m.rep, .int .i64 m.one, .string (txt m.name), .int .i64 m.no, .int .i64 m.at_]] w fun e w' => e = .returned (.int .i64 (m.no)) ∧ w' = w.alloc (.cells #[.string (txt m.type), .string (txt m.key), .bool m.rep, .int .i64 m.one, .string (txt m.name), .int .i64 m.no, .int .i64 m.at_] 53) := by
  go_enter Tryz.func75, Tryz.ntmps75
  go_wp2
  go_ret
  exact ⟨rfl, rfl⟩
set_option maxRecDepth 1000000 in
set_option maxHeartbeats 2000000 in
theorem eachFdI_any (B : Nat) (v : Value) (l : List Fd) (hl : l.length ≤ 100000) (w : World) (hB : B ≤ w.heap.size) (hr : Rb B w v l.length 7 (fdv l)) :
    Calls Tryz.prog 74 #[v, .func (.func 75) #[] #[]] w fun e w' => ∃ v', e = .returned v' ∧ w'.ownsRow w.heap.size 2 1 v' l.length (intv (l.map (·.no))) ∧ Below w.heap.size w w' := by
  obtain ⟨A, c, rfl, hs, hA⟩ := hr
  obtain ⟨i0, hi, hz0, hz1, hz2⟩ := info_parts infoI64s
  have HS := Lib.hid hs
  clear hs
  go_enter Tryz.func74, Tryz.ntmps74
  go_wp2_with (at_make; refine wpList_make_own _ rfl _ _ 49 rfl w.heap.size 2 i0 _ 1 Tryz.underlying49 hi hz0 hz1 _ _ _ l.length rfl rfl rfl (by rw [hz2]; omega) (by unfold maxLen; omega) (Nat.le_refl _) ?_; intro w1 hown1 hg1)
  have hb1 : Below w.heap.size w w1 := (Below.refl w.heap.size w).grown hg1 (Nat.le_refl _) (fun k hk => by cases hk)
  go_loopw [5, 13] (fun o i wr => ∃ k : Nat, i = .int .i64 k ∧ k ≤ l.length ∧ wr.ownsRow w.heap.size 2 1 o k (intv ((l.take k).map (·.no))) ∧ Below w.heap.size w wr) (fun _ i _ => l.length - (intOf i).toNat)
  case atStart => exact ⟨0, rfl, by omega, hown1, hb1⟩
  case round =>
    obtain ⟨k, rfl, hk, hown, hb⟩ := hrel
    by_cases hlt : k < l.length
    · obtain ⟨m, hm⟩ : ∃ m, l[k]? = some m := ⟨_, List.getElem?_eq_getElem hlt⟩
      obtain ⟨ad, rfl, _, c0, c1, c2, c3, c4, c5, c6⟩ := fdr_at (HS.out.low hA (Low.below hb hB)) hm
      have HN := Lib.hid (intv_next (·.no) hm)
      clear hm
      go_wp2_with (first
        | (at_builtin; refine wpList_app1 rfl _ _ 49 rfl w.heap.size 2 i0 _ 8 Tryz.underlying49 hi hz0 hz1 hz2 rfl _ k _ rfl (((hown.alloc _).alloc _).alloc _) _ 1 (.int .i64 (m.no)) rfl (World.cell?_alloc_at _ _ _ _ (by simp)) rfl (by unfold maxLen; omega) (by omega) (by have := hb.size; simp; omega) ?_; intro v3 w3 hown3 hg3)
        | (go_at_call 75; refine (clo_eachFdI_any m _).mono ?_; rintro e w2 ⟨rfl, rfl⟩))
      rw [HN.out] at hown3
      exact ⟨⟨k + 1, by go_num, by omega, hown3, (below_lit (below_lit (below_lit hb _) _) _).grown hg3 (by have := hb.size; simp; omega) (own_ge hown)⟩, by simp [intOf]; omega⟩
    · obtain rfl : k = l.length := by omega
      rw [List.take_length] at hown
      go_wp2
      go_ret
      exact ⟨_, rfl, hown, hb⟩
theorem clo_eachVlN_any (m : Vl) (w : World) : Calls Tryz.prog 85 #[.agg #[.string (txt m.name), .int .i64 m.n, .int .i64 m.at_]] w fun e w' => e = .returned (.string (txt m.name)) ∧ w' = w.alloc (.cells #[.string (txt m.name), .int .i64 m.n, .int .i64 m.at_] 83) := by
  go_enter Tryz.func85, Tryz.ntmps85
  go_wp2
  go_ret
  exact ⟨rfl, rfl⟩
set_option maxRecDepth 1000000 in
set_option maxHeartbeats 2000000 in
theorem eachVlN_any (B : Nat) (v : Value) (l : List Vl) (hl : l.length ≤ 100000) (w : World) (hB : B ≤ w.heap.size) (hr : Rb B w v l.length 3 (vlv l)) :
    Calls Tryz.prog 84 #[v, .func (.func 85) #[] #[]] w fun e w' => ∃ v', e = .returned v' ∧ w'.ownsRow w.heap.size 9 1 v' l.length (strv (l.map (·.name))) ∧ Below w.heap.size w w' := by
  obtain ⟨A, c, rfl, hs, hA⟩ := hr
  obtain ⟨i0, hi, hz0, hz1, hz2⟩ := info_parts infoStrs
  have HS := Lib.hid hs
  clear hs
  go_enter Tryz.func84, Tryz.ntmps84
  go_wp2_with (at_make; refine wpList_make_own _ rfl _ _ 48 rfl w.heap.size 9 i0 _ 1 Tryz.underlying48 hi hz0 hz1 _ _ _ l.length rfl rfl rfl (by rw [hz2]; omega) (by unfold maxLen; omega) (Nat.le_refl _) ?_; intro w1 hown1 hg1)
  have hb1 : Below w.heap.size w w1 := (Below.refl w.heap.size w).grown hg1 (Nat.le_refl _) (fun k hk => by cases hk)
  go_loopw [5, 13] (fun o i wr => ∃ k : Nat, i = .int .i64 k ∧ k ≤ l.length ∧ wr.ownsRow w.heap.size 9 1 o k (strv ((l.take k).map (·.name))) ∧ Below w.heap.size w wr) (fun _ i _ => l.length - (intOf i).toNat)
  case atStart => exact ⟨0, rfl, by omega, hown1, hb1⟩
  case round =>
    obtain ⟨k, rfl, hk, hown, hb⟩ := hrel
    by_cases hlt : k < l.length
    · obtain ⟨m, hm⟩ : ∃ m, l[k]? = some m := ⟨_, List.getElem?_eq_getElem hlt⟩
      obtain ⟨ad, rfl, _, c0, c1, c2⟩ := vlr_at (HS.out.low hA (Low.below hb hB)) hm
      have HN := Lib.hid (strv_next (·.name) hm)
      clear hm
      go_wp2_with (first
        | (at_builtin; refine wpList_app1 rfl _ _ 48 rfl w.heap.size 9 i0 _ 16 Tryz.underlying48 hi hz0 hz1 hz2 rfl _ k _ rfl (((hown.alloc _).alloc _).alloc _) _ 1 (.string (txt m.name)) rfl (World.cell?_alloc_at _ _ _ _ (by simp)) rfl (by unfold maxLen; omega) (by omega) (by have := hb.size; simp; omega) ?_; intro v3 w3 hown3 hg3)
        | (go_at_call 85; refine (clo_eachVlN_any m _).mono ?_; rintro e w2 ⟨rfl, rfl⟩))
      rw [HN.out] at hown3
      exact ⟨⟨k + 1, by go_num, by omega, hown3, (below_lit (below_lit (below_lit hb _) _) _).grown hg3 (by have := hb.size; simp; omega) (own_ge hown)⟩, by simp [intOf]; omega⟩
    · obtain rfl : k = l.length := by omega
      rw [List.take_length] at hown
      go_wp2
      go_ret
      exact ⟨_, rfl, hown, hb⟩
theorem clo_eachVlI_any (m : Vl) (w : World) : Calls Tryz.prog 87 #[.agg #[.string (txt m.name), .int .i64 m.n, .int .i64 m.at_]] w fun e w' => e = .returned (.int .i64 (m.n)) ∧ w' = w.alloc (.cells #[.string (txt m.name), .int .i64 m.n, .int .i64 m.at_] 83) := by
  go_enter Tryz.func87, Tryz.ntmps87
  go_wp2
  go_ret
  exact ⟨rfl, rfl⟩
set_option maxRecDepth 1000000 in
set_option maxHeartbeats 2000000 in
theorem eachVlI_any (B : Nat) (v : Value) (l : List Vl) (hl : l.length ≤ 100000) (w : World) (hB : B ≤ w.heap.size) (hr : Rb B w v l.length 3 (vlv l)) :
    Calls Tryz.prog 86 #[v, .func (.func 87) #[] #[]] w fun e w' => ∃ v', e = .returned v' ∧ w'.ownsRow w.heap.size 2 1 v' l.length (intv (l.map (·.n))) ∧ Below w.heap.size w w' := by
  obtain ⟨A, c, rfl, hs, hA⟩ := hr
  obtain ⟨i0, hi, hz0, hz1, hz2⟩ := info_parts infoI64s
  have HS := Lib.hid hs
  clear hs
  go_enter Tryz.func86, Tryz.ntmps86
  go_wp2_with (at_make; refine wpList_make_own _ rfl _ _ 49 rfl w.heap.size 2 i0 _ 1 Tryz.underlying49 hi hz0 hz1 _ _ _ l.length rfl rfl rfl (by rw [hz2]; omega) (by unfold maxLen; omega) (Nat.le_refl _) ?_; intro w1 hown1 hg1)
  have hb1 : Below w.heap.size w w1 := (Below.refl w.heap.size w).grown hg1 (Nat.le_refl _) (fun k hk => by cases hk)
  go_loopw [5, 13] (fun o i wr => ∃ k : Nat, i = .int .i64 k ∧ k ≤ l.length ∧ wr.ownsRow w.heap.size 2 1 o k (intv ((l.take k).map (·.n))) ∧ Below w.heap.size w wr) (fun _ i _ => l.length - (intOf i).toNat)
  case atStart => exact ⟨0, rfl, by omega, hown1, hb1⟩
  case round =>
    obtain ⟨k, rfl, hk, hown, hb⟩ := hrel
    by_cases hlt : k < l.length
    · obtain ⟨m, hm⟩ : ∃ m, l[k]? = some m := ⟨_, List.getElem?_eq_getElem hlt⟩
      obtain ⟨ad, rfl, _, c0, c1, c2⟩ := vlr_at (HS.out.low hA (Low.below hb hB)) hm
      have HN := Lib.hid (intv_next (·.n) hm)
      clear hm
      go_wp2_with (first
        | (at_builtin; refine wpList_app1 rfl _ _ 49 rfl w.heap.size 2 i0 _ 8 Tryz.underlying49 hi hz0 hz1 hz2 rfl _ k _ rfl (((hown.alloc _).alloc _).alloc _) _ 1 (.int .i64 (m.n)) rfl (World.cell?_alloc_at _ _ _ _ (by simp)) rfl (by unfold maxLen; omega) (by omega) (by have := hb.size; simp; omega) ?_; intro v3 w3 hown3 hg3)
        | (go_at_call 87; refine (clo_eachVlI_any m _).mono ?_; rintro e w2 ⟨rfl, rfl⟩))
      rw [HN.out] at hown3
      exact ⟨⟨k + 1, by go_num, by omega, hown3, (below_lit (below_lit (below_lit hb _) _) _).grown hg3 (by have := hb.size; simp; omega) (own_ge hown)⟩, by simp [intOf]; omega⟩
    · obtain rfl : k = l.length := by omega
      rw [List.take_length] at hown
      go_wp2
      go_ret
      exact ⟨_, rfl, hown, hb⟩
theorem clo_eachDf_any (m : Df) (w : World) : Calls Tryz.prog 101 #[.agg #[.int .i64 m.no, .string (txt m.name), .int .i64 m.kind, .int .i64 m.ref, .bool m.rep, .int .i64 m.key, .int .i64 m.one]] w fun e w' => e = .returned (.string (txt m.name)) ∧ w' = w.alloc (.cells #[.int .i64 m.no, .string (txt m.name), .int .i64 m.kind, .int .i64 m.ref, .bool m.rep, .int .i64 m.key, .int .i64 m.one] 39) := by
  go_enter Tryz.func101, Tryz.ntmps101
  go_wp2
  go_ret
  exact ⟨rfl, rfl⟩
set_option maxRecDepth 1000000 in
set_option maxHeartbeats 2000000 in
theorem eachDf_any (B : Nat) (v : Value) (l : List Df) (hl : l.length ≤ 100000) (w : World) (hB : B ≤ w.heap.size) (hr : Rb B w v l.length 7 (dfv l)) :
    Calls Tryz.prog 100 #[v, .func (.func 101) #[] #[]] w fun e w' => ∃ v', e = .returned v' ∧ w'.ownsRow w.heap.size 9 1 v' l.length (strv (l.map (·.name))) ∧ Below w.heap.size w w' := by
  obtain ⟨A, c, rfl, hs, hA⟩ := hr
  obtain ⟨i0, hi, hz0, hz1, hz2⟩ := info_parts infoStrs
  have HS := Lib.hid hs
  clear hs
  go_enter Tryz.func100, Tryz.ntmps100
  go_wp2_with (at_make; refine wpList_make_own _ rfl _ _ 48 rfl w.heap.size 9 i0 _ 1 Tryz.underlying48 hi hz0 hz1 _ _ _ l.length rfl rfl rfl (by rw [hz2]; omega) (by unfold maxLen; omega) (Nat.le_refl _) ?_; intro w1 hown1 hg1)
  have hb1 : Below w.heap.size w w1 := (Below.refl w.heap.size w).grown hg1 (Nat.le_refl _) (fun k hk => by cases hk)
  go_loopw [5, 13] (fun o i wr => ∃ k : Nat, i = .int .i64 k ∧ k ≤ l.length ∧ wr.ownsRow w.heap.size 9 1 o k (strv ((l.take k).map (·.name))) ∧ Below w.heap.size w wr) (fun _ i _ => l.length - (intOf i).toNat)
  case atStart => exact ⟨0, rfl, by omega, hown1, hb1⟩
  case round =>
    obtain ⟨k, rfl, hk, hown, hb⟩ := hrel
    by_cases hlt : k < l.length
    · obtain ⟨m, hm⟩ : ∃ m, l[k]? = some m := ⟨_, List.getElem?_eq_getElem hlt⟩
      obtain ⟨ad, rfl, _, c0, c1, c2, c3, c4, c5, c6⟩ := dfr_at (HS.out.low hA (Low.below hb hB)) hm
      have HN := Lib.hid (strv_next (·.name) hm)
      clear hm
      go_wp2_with (first
        | (at_builtin; refine wpList_app1 rfl _ _ 48 rfl w.heap.size 9 i0 _ 16 Tryz.underlying48 hi hz0 hz1 hz2 rfl _ k _ rfl (((hown.alloc _).alloc _).alloc _) _ 1 (.string (txt m.name)) rfl (World.cell?_alloc_at _ _ _ _ (by simp)) rfl (by unfold maxLen; omega) (by omega) (by have := hb.size; simp; omega) ?_; intro v3 w3 hown3 hg3)
        | (go_at_call 101; refine (clo_eachDf_any m _).mono ?_; rintro e w2 ⟨rfl, rfl⟩))
      rw [HN.out] at hown3
      exact ⟨⟨k + 1, by go_num, by omega, hown3, (below_lit (below_lit (below_lit hb _) _) _).grown hg3 (by have := hb.size; simp; omega) (own_ge hown)⟩, by simp [intOf]; omega⟩
    · obtain rfl : k = l.length := by omega
      rw [List.take_length] at hown
      go_wp2
      go_ret
      exact ⟨_, rfl, hown, hb⟩
end Go.Proofs.YtciiemomfniecaaGreatDoor
