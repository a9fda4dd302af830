/-
  Sets that are made of lists: the contracts.
-/
import Derived.Test.YtciiemomfniecaaGreatDoorTabDrop
import Derived.Test.YtciiemomfniecaaGreatDoorTokSmall
import Derived.Deep.RegionHeld3
namespace Go.Proofs.YtciiemomfniecaaGreatDoor
set_option maxRecDepth 100000

open Go.RowKit Go.Maps

/-- Lists of names, one slice each, below B. -/
def LsS (B : Nat) (w : World) (ls : List (List (List UInt8))) (vs : List Value) : Prop := ∀ (k : Nat) l, ls[k]? = some l → ∃ A c, vs[k]? = some (Value.slice A l.length c) ∧ Sl w A l.length c 1 (strv l) ∧ ∀ ad, A = some ad → 0 < l.length → ad.block < B
def LsI (B : Nat) (w : World) (ls : List (List Int)) (vs : List Value) : Prop := ∀ (k : Nat) l, ls[k]? = some l → ∃ A c, vs[k]? = some (Value.slice A l.length c) ∧ Sl w A l.length c 1 (intv l) ∧ ∀ ad, A = some ad → 0 < l.length → ad.block < B
theorem put_next {α : Type} [DecidableEq α] [BEq α] [LawfulBEq α] {p : α → Bool} {l : List α} {k : Nat} {x : α} (h : l[k]? = some x) : (fun y => (p y || (l.take k).contains y) || decide (y = x)) = fun y => p y || (l.take (k + 1)).contains y := by
  funext y
  rw [List.take_add_one, h]
  by_cases hy : y = x
  · subst hy; simp
  · simp [hy]
theorem flat_next {α : Type} [BEq α] [LawfulBEq α] {ls : List (List α)} {k : Nat} {l : List α} (h : ls[k]? = some l) : (fun y => (ls.take k).flatten.contains y || l.contains y) = fun y => (ls.take (k + 1)).flatten.contains y := by
  funext y
  rw [List.take_add_one, h]
  simp
theorem flats_len {α : Type} {ls : List (List α)} {k : Nat} {l : List α} (h : ls[k]? = some l) : (ls.take (k + 1)).flatten.length = (ls.take k).flatten.length + l.length := by
  rw [List.take_add_one, h]
  simp
theorem flats_le {α : Type} (ls : List (List α)) (k : Nat) : (ls.take k).flatten.length ≤ ls.flatten.length := by
  conv => rhs; rw [← List.take_append_drop k ls, List.flatten_append, List.length_append]
  omega
set_option maxRecDepth 1000000 in
set_option maxHeartbeats 2000000 in
theorem freeOfS_any (A : Option Addr) (c : Nat) (ls : List (List (List UInt8))) (vs : List Value) (w : World) (hs : Sl w A ls.length c 1 vs) (hv : LsS w.heap.size w ls vs) (hn : ls.flatten.length ≤ 100000) (hx : ∀ l ∈ ls, ∀ x ∈ l, x.length ≤ maxLen) (hl : ls.length ≤ 1000) :
    Calls Tryz.prog 69 #[.slice A ls.length c] w fun e w' => e = .returned (.map (some w.heap.size)) ∧ FreeS w' w.heap.size ls.flatten.length (fun y => ls.flatten.contains y) ∧ Below w.heap.size w w' := by
  have HS := Lib.hid hs
  have HV := Lib.hid hv
  have HX := Lib.hid hx
  have HLE := Lib.hid (flats_le ls)
  clear hs hv hx
  have hmm := @run_makeMap Tryz.prog
  go_enter Tryz.func69, Tryz.ntmps69
  go_wp2
  go_loopw [11] (fun i wr => ∃ k : Nat, i = .int .i64 k ∧ k ≤ ls.length ∧ FreeS wr w.heap.size (ls.take k).flatten.length (fun y => (ls.take k).flatten.contains y) ∧ Below w.heap.size w wr) (fun i _ => ls.length - (intOf i).toNat)
  case atStart => exact ⟨0, rfl, by omega, Free.made w, below_new w _⟩
  case round =>
    obtain ⟨k, rfl, hk, hm, hb⟩ := hrel
    by_cases hlt : k < ls.length
    · obtain ⟨l, hl0⟩ : ∃ l, ls[k]? = some l := ⟨_, List.getElem?_eq_getElem hlt⟩
      obtain ⟨Al, cl, hvk, hsl, hAl⟩ := HV.out k l hl0
      obtain ⟨ad, rfl, hab, hc⟩ := Sl.there (HS.out.on hb) (by omega)
      have hck := hc k _ hvk
      have HN := Lib.hid (flat_next hl0)
      have HLN := Lib.hid (flats_len hl0)
      have HXl := Lib.hid (HX.out l (List.mem_of_getElem? hl0))
      have HSL := Lib.hid hsl
      have hll : (ls.take k).flatten.length + l.length ≤ 100000 := by
        have h1 := HLN.out
        have h2 := HLE.out (k + 1)
        omega
      generalize (ls.take k).flatten = F at *
      clear hvk hc hsl hl0
      go_wp2
      go_loopw [17] (fun i wy => ∃ j : Nat, i = .int .i64 j ∧ j ≤ l.length ∧ FreeS wy w.heap.size (F.length + j) (fun y => F.contains y || (l.take j).contains y) ∧ Below w.heap.size w wy) (fun i _ => l.length - (intOf i).toNat)
      case atStart => exact ⟨0, rfl, by omega, hm.eq (by funext y; simp), hb⟩
      case round =>
        obtain ⟨j, rfl, hj, hm, hb⟩ := hrel
        by_cases hlt2 : j < l.length
        · obtain ⟨x, hx⟩ : ∃ x, l[j]? = some x := ⟨_, List.getElem?_eq_getElem hlt2⟩
          obtain ⟨ad2, rfl, hab2, hc2⟩ := strr_at (HSL.out.on hb) hx
          have hxl := HXl.out x (List.mem_of_getElem? hx)
          have HP := Lib.hid (put_next (p := fun y => F.contains y) hx)
          clear hx
          go_wp2_with (at_mapUpdate; refine wpList_free_put rfl _ _ _ 91 160 rfl kS_law Tryz.underlying91 kS_inj kS_lit w.heap.size _ _ rfl hm (by omega) _ x rfl rfl (kS_key hxl) ?_; intro w3 h3 hg3)
          exact ⟨⟨j + 1, by go_num, by omega, h3.eq HP.out, hb.grown hg3 hb.size (fun q hq => by injection hq with hq; omega)⟩, by simp [intOf]; omega⟩
        · obtain rfl : j = l.length := by omega
          rw [List.take_length] at hm
          go_wp2
          exact ⟨⟨k + 1, by go_num, by omega, by rw [HLN.out]; exact hm.eq HN.out, hb⟩, by simp [intOf]; omega⟩
    · obtain rfl : k = ls.length := by omega
      rw [List.take_length] at hm
      go_wp2
      go_ret
      exact ⟨rfl, hm, hb⟩
set_option maxRecDepth 1000000 in
set_option maxHeartbeats 2000000 in
theorem freeOfI_any (A : Option Addr) (c : Nat) (ls : List (List Int)) (vs : List Value) (w : World) (hs : Sl w A ls.length c 1 vs) (hv : LsI w.heap.size w ls vs) (hn : ls.flatten.length ≤ 100000) (hx : ∀ l ∈ ls, ∀ x ∈ l, inr x) (hl : ls.length ≤ 1000) :
    Calls Tryz.prog 73 #[.slice A ls.length c] w fun e w' => e = .returned (.map (some w.heap.size)) ∧ FreeI w' w.heap.size ls.flatten.length (fun y => ls.flatten.contains y) ∧ Below w.heap.size w w' := by
  have HS := Lib.hid hs
  have HV := Lib.hid hv
  have HX := Lib.hid hx
  have HLE := Lib.hid (flats_le ls)
  clear hs hv hx
  have hmm := @run_makeMap Tryz.prog
  go_enter Tryz.func73, Tryz.ntmps73
  go_wp2
  go_loopw [11] (fun i wr => ∃ k : Nat, i = .int .i64 k ∧ k ≤ ls.length ∧ FreeI wr w.heap.size (ls.take k).flatten.length (fun y => (ls.take k).flatten.contains y) ∧ Below w.heap.size w wr) (fun i _ => ls.length - (intOf i).toNat)
  case atStart => exact ⟨0, rfl, by omega, Free.made w, below_new w _⟩
  case round =>
    obtain ⟨k, rfl, hk, hm, hb⟩ := hrel
    by_cases hlt : k < ls.length
    · obtain ⟨l, hl0⟩ : ∃ l, ls[k]? = some l := ⟨_, List.getElem?_eq_getElem hlt⟩
      obtain ⟨Al, cl, hvk, hsl, hAl⟩ := HV.out k l hl0
      obtain ⟨ad, rfl, hab, hc⟩ := Sl.there (HS.out.on hb) (by omega)
      have hck := hc k _ hvk
      have HN := Lib.hid (flat_next hl0)
      have HLN := Lib.hid (flats_len hl0)
      have HXl := Lib.hid (HX.out l (List.mem_of_getElem? hl0))
      have HSL := Lib.hid hsl
      have hll : (ls.take k).flatten.length + l.length ≤ 100000 := by
        have h1 := HLN.out
        have h2 := HLE.out (k + 1)
        omega
      generalize (ls.take k).flatten = F at *
      clear hvk hc hsl hl0
      go_wp2
      go_loopw [17] (fun i wy => ∃ j : Nat, i = .int .i64 j ∧ j ≤ l.length ∧ FreeI wy w.heap.size (F.length + j) (fun y => F.contains y || (l.take j).contains y) ∧ Below w.heap.size w wy) (fun i _ => l.length - (intOf i).toNat)
      case atStart => exact ⟨0, rfl, by omega, hm.eq (by funext y; simp), hb⟩
      case round =>
        obtain ⟨j, rfl, hj, hm, hb⟩ := hrel
        by_cases hlt2 : j < l.length
        · obtain ⟨x, hx⟩ : ∃ x, l[j]? = some x := ⟨_, List.getElem?_eq_getElem hlt2⟩
          obtain ⟨ad2, rfl, hab2, hc2⟩ := intr_at (HSL.out.on hb) hx
          have hxl := HXl.out x (List.mem_of_getElem? hx)
          have HP := Lib.hid (put_next (p := fun y => F.contains y) hx)
          clear hx
          go_wp2_with (at_mapUpdate; refine wpList_free_put rfl _ _ _ 132 160 rfl kI_law Tryz.underlying132 kI_inj kI_lit w.heap.size _ _ rfl hm (by omega) _ x rfl rfl (kI_key hxl) ?_; intro w3 h3 hg3)
          exact ⟨⟨j + 1, by go_num, by omega, h3.eq HP.out, hb.grown hg3 hb.size (fun q hq => by injection hq with hq; omega)⟩, by simp [intOf]; omega⟩
        · obtain rfl : j = l.length := by omega
          rw [List.take_length] at hm
          go_wp2
          exact ⟨⟨k + 1, by go_num, by omega, by rw [HLN.out]; exact hm.eq HN.out, hb⟩, by simp [intOf]; omega⟩
    · obtain rfl : k = ls.length := by omega
      rw [List.take_length] at hm
      go_wp2
      go_ret
      exact ⟨rfl, hm, hb⟩
theorem drop_nextP {p : List UInt8 → Bool} {k : Nat} {q : List UInt8 × Nat} (h : plainsL[k]? = some q) : (fun y => (p y && !((plainsL.map (·.1)).take k).contains y) && decide (y ≠ q.1)) = fun y => p y && !((plainsL.map (·.1)).take (k + 1)).contains y :=
  drop_next (l := plainsL.map (·.1)) (by rw [List.getElem?_map, h]; rfl)
theorem plain_short {k : Nat} {q : List UInt8 × Nat} (h : plainsL[k]? = some q) : q.1.length ≤ maxLen := by
  have : ∀ q ∈ plainsL, q.1.length ≤ 8 := by decide
  have := this q (List.mem_of_getElem? h)
  unfold maxLen
  omega
set_option maxRecDepth 1000000 in
set_option maxHeartbeats 2000000 in
theorem typeNames_any (v1 v2 : Value) (l1 l2 : List (List UInt8)) (w : World) (T : Tabs w) (h1 : Rb w.heap.size w v1 l1.length 1 (strv l1)) (h2 : Rb w.heap.size w v2 l2.length 1 (strv l2)) (hn : l1.length + l2.length ≤ 100000) (hx : ∀ x ∈ l1 ++ l2, x.length ≤ maxLen) :
    Calls Tryz.prog 44 #[v1, v2] w fun e w' => ∃ b, e = .returned (.map (some b)) ∧ w.heap.size ≤ b ∧ FreeS w' b (l1.length + l2.length) (stillT (l1 ++ l2) 0) ∧ Below w.heap.size w w' := by
  obtain ⟨A1, c1, rfl, s1, a1⟩ := h1
  obtain ⟨A2, c2, rfl, s2, a2⟩ := h2
  have hbw := below_new w (.cells #[.slice A1 l1.length c1, .slice A2 l2.length c2] 48)
  have hF := freeOfS_any (some ⟨w.heap.size, 0, none⟩) 2 [l1, l2] [.slice A1 l1.length c1, .slice A2 l2.length c2] (w.alloc (.cells #[.slice A1 l1.length c1, .slice A2 l2.length c2] 48)) (Sl.new w [.slice A1 l1.length c1, .slice A2 l2.length c2] _ (by unfold maxLen; simp)) (by
    intro k l hk
    match k, hk with
    | 0, hk =>
      obtain rfl : l1 = l := by simpa using hk
      exact ⟨A1, c1, rfl, s1.on hbw, fun ad ha hp => Nat.lt_of_lt_of_le (a1 ad ha hp) hbw.size⟩
    | 1, hk =>
      obtain rfl : l2 = l := by simpa using hk
      exact ⟨A2, c2, rfl, s2.on hbw, fun ad ha hp => Nat.lt_of_lt_of_le (a2 ad ha hp) hbw.size⟩
    | k + 2, hk => simp at hk) (by simpa using hn) (by
    intro l hl x hxl
    refine hx x (List.mem_append.2 ?_)
    rcases List.mem_cons.1 hl with rfl | hl
    · exact .inl hxl
    · obtain rfl : l = l2 := by simpa using hl
      exact .inr hxl) (by simp)
  have HF := Lib.hid hF
  have HST := Lib.hid (still_start (l1 ++ l2) (plainsL.map (·.1)))
  clear hF s1 s2 a1 a2 hx
  have HBW := Lib.hid hbw
  have HT := Lib.hid (T.on hbw)
  clear hbw T
  go_enter Tryz.func44, Tryz.ntmps44
  go_wp2_with (first
    | (go_at_call 69; refine HF.out.mono ?_; rintro e w2 ⟨rfl, hm2, hb2⟩; obtain ⟨tt, fr, hT⟩ := (HT.out.on hb2).plains)
    | (refine wpList_load_row rfl 88 _ rfl 0 rfl tt _ fr _ hT Tryz.underlying88 rfl (by kernel_rfl) ?_))
  have hbb : Below w.heap.size w w2 := HBW.out.trans (hb2.mono HBW.out.size)
  have hm3 : FreeS w2 (w.heap.size + 1) (l1.length + l2.length) (fun y => (l1 ++ l2).contains y) := by
    have e : (w.alloc (.cells #[.slice A1 l1.length c1, .slice A2 l2.length c2] 48)).heap.size = w.heap.size + 1 := by simp
    rw [e] at hm2
    have e2 : [l1, l2].flatten = l1 ++ l2 := by simp
    rw [e2] at hm2
    exact hm2.mono (by simp)
  clear hm2 hb2 hT
  go_loopw [13] (fun i wr => ∃ k : Nat, i = .int .i64 k ∧ k ≤ 8 ∧ FreeS wr (w.heap.size + 1) (l1.length + l2.length) (fun y => (l1 ++ l2).contains y && !((plainsL.map (·.1)).take k).contains y) ∧ Below w.heap.size w wr) (fun i _ => 8 - (intOf i).toNat)
  case atStart => exact ⟨0, rfl, by omega, hm3.eq (by funext y; simp), hbb⟩
  case round =>
    obtain ⟨k, rfl, hk, hm, hb⟩ := hrel
    by_cases hlt : k < 8
    · obtain ⟨q, hq⟩ : ∃ q, plainsL[k]? = some q := ⟨_, List.getElem?_eq_getElem hlt⟩
      have hi := index_plain wr hq
      have hql := plain_short hq
      have HN := Lib.hid (drop_nextP (p := fun y => (l1 ++ l2).contains y) hq)
      clear hq
      go_wp2_with (at_delete; refine wpList_free_del rfl _ _ 91 160 rfl kS_law Tryz.underlying91 kS_inj (w.heap.size + 1) _ _ rfl (hm.alloc _) _ q.1 rfl (kS_key hql) ?_; intro w3 h3 hg3)
      exact ⟨⟨k + 1, by go_num, by omega, h3.eq HN.out, (below_lit hb _).grown hg3 (by have := hb.size; simp; omega) (fun j hj => by injection hj with hj; omega)⟩, by simp [intOf]; omega⟩
    · obtain rfl : k = 8 := by omega
      go_wp2
      go_ret
      refine ⟨w.heap.size + 1, rfl, by omega, hm.eq ?_, hb⟩
      unfold stillT
      rw [HST.out]
      rfl
end Go.Proofs.YtciiemomfniecaaGreatDoor
/-
  What is told of each element of a list: the contracts of the nine instances of one function.
-/
namespace Go.Proofs.YtciiemomfniecaaGreatDoor
set_option maxRecDepth 100000

open Go.RowKit

theorem strv_next {α : Type} (g : α → List UInt8) {l : List α} {k : Nat} {x : α} (h : l[k]? = some x) : strv ((l.take k).map g) ++ [.string (txt (g x))] = strv ((l.take (k + 1)).map g) := by
  rw [List.take_add_one, h]; simp [strv]
theorem intv_next {α : Type} (g : α → Int) {l : List α} {k : Nat} {x : α} (h : l[k]? = some x) : intv ((l.take k).map g) ++ [.int .i64 (g x)] = intv ((l.take (k + 1)).map g) := by
  rw [List.take_add_one, h]; simp [intv]
theorem clo_eachMs_any (m : Ms) (a1 : Option Addr) (n1 k1 : Nat) (a2 : Option Addr) (n2 k2 : Nat) (a3 : Option Addr) (n3 k3 : Nat) (w : World) : Calls Tryz.prog 65 #[.agg #[.string (txt m.name), .slice a1 n1 k1, .slice a2 n2 k2, .slice a3 n3 k3, .int .i64 m.at_]] w fun e w' => e = .returned (.string (txt m.name)) ∧ w' = w.alloc (.cells #[.string (txt m.name), .slice a1 n1 k1, .slice a2 n2 k2, .slice a3 n3 k3, .int .i64 m.at_] 51) := by
  go_enter Tryz.func65, Tryz.ntmps65
  go_wp2
  go_ret
  exact ⟨rfl, rfl⟩
set_option maxRecDepth 1000000 in
set_option maxHeartbeats 2000000 in
theorem eachMs_any (B : Nat) (v : Value) (xs : List Value) (l : List Ms) (hl : l.length ≤ 100000) (w : World) (hB : B ≤ w.heap.size) (hr : Rb B w v l.length 5 xs) (ha : MsAt B w l xs) :
    Calls Tryz.prog 64 #[v, .func (.func 65) #[] #[]] w fun e w' => ∃ v', e = .returned v' ∧ w'.ownsRow w.heap.size 9 1 v' l.length (strv (l.map (·.name))) ∧ Below w.heap.size w w' := by
  obtain ⟨A, c, rfl, hs, hA⟩ := hr
  obtain ⟨i0, hi, hz0, hz1, hz2⟩ := info_parts infoStrs
  have HS := Lib.hid hs
  have HA := Lib.hid ha
  clear hs ha
  go_enter Tryz.func64, Tryz.ntmps64
  go_wp2_with (at_make; refine wpList_make_own _ rfl _ _ 48 rfl w.heap.size 9 i0 _ 1 Tryz.underlying48 hi hz0 hz1 _ _ _ l.length rfl rfl rfl (by rw [hz2]; omega) (by unfold maxLen; omega) (Nat.le_refl _) ?_; intro w1 hown1 hg1)
  have hb1 : Below w.heap.size w w1 := (Below.refl w.heap.size w).grown hg1 (Nat.le_refl _) (fun k hk => by cases hk)
  go_loopw [5, 13] (fun o i wr => ∃ k : Nat, i = .int .i64 k ∧ k ≤ l.length ∧ wr.ownsRow w.heap.size 9 1 o k (strv ((l.take k).map (·.name))) ∧ Below w.heap.size w wr) (fun _ i _ => l.length - (intOf i).toNat)
  case atStart => exact ⟨0, rfl, by omega, hown1, hb1⟩
  case round =>
    obtain ⟨k, rfl, hk, hown, hb⟩ := hrel
    by_cases hlt : k < l.length
    · obtain ⟨m, hm⟩ : ∃ m, l[k]? = some m := ⟨_, List.getElem?_eq_getElem hlt⟩
      obtain ⟨ad, vF, vO, vR, rfl, _, hmr, c0, c1, c2, c3, c4⟩ := msr_at (HS.out.low hA (Low.below hb hB)) (HA.out.low (Low.below hb hB)) hm
      obtain ⟨_, _, rfl, -, -⟩ := hmr.f
      obtain ⟨_, _, rfl, -, -⟩ := hmr.o
      obtain ⟨_, _, rfl, -, -⟩ := hmr.r
      have HN := Lib.hid (strv_next (·.name) hm)
      clear hm
      go_wp2_with (first
        | (at_builtin; refine wpList_app1 rfl _ _ 48 rfl w.heap.size 9 i0 _ 16 Tryz.underlying48 hi hz0 hz1 hz2 rfl _ k _ rfl (((hown.alloc _).alloc _).alloc _) _ 1 (.string (txt m.name)) rfl (World.cell?_alloc_at _ _ _ _ (by simp)) rfl (by unfold maxLen; omega) (by omega) (by have := hb.size; simp; omega) ?_; intro v3 w3 hown3 hg3)
        | (go_at_call 65; refine (clo_eachMs_any m _ _ _ _ _ _ _ _ _ _).mono ?_; rintro e w2 ⟨rfl, rfl⟩))
      rw [HN.out] at hown3
      exact ⟨⟨k + 1, by go_num, by omega, hown3, (below_lit (below_lit (below_lit hb _) _) _).grown hg3 (by have := hb.size; simp; omega) (own_ge hown)⟩, by simp [intOf]; omega⟩
    · obtain rfl : k = l.length := by omega
      rw [List.take_length] at hown
      go_wp2
      go_ret
      exact ⟨_, rfl, hown, hb⟩
theorem clo_eachEn_any (m : En) (a1 : Option Addr) (n1 k1 : Nat) (w : World) : Calls Tryz.prog 67 #[.agg #[.string (txt m.name), .slice a1 n1 k1, .int .i64 m.at_]] w fun e w' => e = .returned (.string (txt m.name)) ∧ w' = w.alloc (.cells #[.string (txt m.name), .slice a1 n1 k1, .int .i64 m.at_] 65) := by
  go_enter Tryz.func67, Tryz.ntmps67
  go_wp2
  go_ret
  exact ⟨rfl, rfl⟩
set_option maxRecDepth 1000000 in
set_option maxHeartbeats 2000000 in
theorem eachEn_any (B : Nat) (v : Value) (xs : List Value) (l : List En) (hl : l.length ≤ 100000) (w : World) (hB : B ≤ w.heap.size) (hr : Rb B w v l.length 3 xs) (ha : EnAt B w l xs) :
    Calls Tryz.prog 66 #[v, .func (.func 67) #[] #[]] w fun e w' => ∃ v', e = .returned v' ∧ w'.ownsRow w.heap.size 9 1 v' l.length (strv (l.map (·.name))) ∧ Below w.heap.size w w' := by
  obtain ⟨A, c, rfl, hs, hA⟩ := hr
  obtain ⟨i0, hi, hz0, hz1, hz2⟩ := info_parts infoStrs
  have HS := Lib.hid hs
  have HA := Lib.hid ha
  clear hs ha
  go_enter Tryz.func66, Tryz.ntmps66
  go_wp2_with (at_make; refine wpList_make_own _ rfl _ _ 48 rfl w.heap.size 9 i0 _ 1 Tryz.underlying48 hi hz0 hz1 _ _ _ l.length rfl rfl rfl (by rw [hz2]; omega) (by unfold maxLen; omega) (Nat.le_refl _) ?_; intro w1 hown1 hg1)
  have hb1 : Below w.heap.size w w1 := (Below.refl w.heap.size w).grown hg1 (Nat.le_refl _) (fun k hk => by cases hk)
  go_loopw [5, 13] (fun o i wr => ∃ k : Nat, i = .int .i64 k ∧ k ≤ l.length ∧ wr.ownsRow w.heap.size 9 1 o k (strv ((l.take k).map (·.name))) ∧ Below w.heap.size w wr) (fun _ i _ => l.length - (intOf i).toNat)
  case atStart => exact ⟨0, rfl, by omega, hown1, hb1⟩
  case round =>
    obtain ⟨k, rfl, hk, hown, hb⟩ := hrel
    by_cases hlt : k < l.length
    · obtain ⟨m, hm⟩ : ∃ m, l[k]? = some m := ⟨_, List.getElem?_eq_getElem hlt⟩
      obtain ⟨ad, vV, rfl, _, hmr, c0, c1, c2⟩ := enr_at (HS.out.low hA (Low.below hb hB)) (HA.out.low (Low.below hb hB)) hm
      obtain ⟨_, _, rfl, -, -⟩ := hmr
      have HN := Lib.hid (strv_next (·.name) hm)
      clear hm
      go_wp2_with (first
        | (at_builtin; refine wpList_app1 rfl _ _ 48 rfl w.heap.size 9 i0 _ 16 Tryz.underlying48 hi hz0 hz1 hz2 rfl _ k _ rfl (((hown.alloc _).alloc _).alloc _) _ 1 (.string (txt m.name)) rfl (World.cell?_alloc_at _ _ _ _ (by simp)) rfl (by unfold maxLen; omega) (by omega) (by have := hb.size; simp; omega) ?_; intro v3 w3 hown3 hg3)
        | (go_at_call 67; refine (clo_eachEn_any m _ _ _ _).mono ?_; rintro e w2 ⟨rfl, rfl⟩))
      rw [HN.out] at hown3
      exact ⟨⟨k + 1, by go_num, by omega, hown3, (below_lit (below_lit (below_lit hb _) _) _).grown hg3 (by have := hb.size; simp; omega) (own_ge hown)⟩, by simp [intOf]; omega⟩
    · obtain rfl : k = l.length := by omega
      rw [List.take_length] at hown
      go_wp2
      go_ret
      exact ⟨_, rfl, hown, hb⟩
theorem clo_eachMd_any (m : Md) (a1 : Option Addr) (n1 k1 : Nat) (w : World) : Calls Tryz.prog 46 #[.agg #[.string (txt m.name), .slice a1 n1 k1]] w fun e w' => e = .returned (.string (txt m.name)) ∧ w' = w.alloc (.cells #[.string (txt m.name), .slice a1 n1 k1] 56) := by
  go_enter Tryz.func46, Tryz.ntmps46
  go_wp2
  go_ret
  exact ⟨rfl, rfl⟩
set_option maxRecDepth 1000000 in
set_option maxHeartbeats 2000000 in
theorem eachMd_any (B : Nat) (v : Value) (xs : List Value) (l : List Md) (hl : l.length ≤ 100000) (w : World) (hB : B ≤ w.heap.size) (hr : Rb B w v l.length 2 xs) (ha : MdsAt B w l xs) :
    Calls Tryz.prog 45 #[v, .func (.func 46) #[] #[]] w fun e w' => ∃ v', e = .returned v' ∧ w'.ownsRow w.heap.size 9 1 v' l.length (strv (l.map (·.name))) ∧ Below w.heap.size w w' := by
  obtain ⟨A, c, rfl, hs, hA⟩ := hr
  obtain ⟨i0, hi, hz0, hz1, hz2⟩ := info_parts infoStrs
  have HS := Lib.hid hs
  have HA := Lib.hid ha
  clear hs ha
  go_enter Tryz.func45, Tryz.ntmps45
  go_wp2_with (at_make; refine wpList_make_own _ rfl _ _ 48 rfl w.heap.size 9 i0 _ 1 Tryz.underlying48 hi hz0 hz1 _ _ _ l.length rfl rfl rfl (by rw [hz2]; omega) (by unfold maxLen; omega) (Nat.le_refl _) ?_; intro w1 hown1 hg1)
  have hb1 : Below w.heap.size w w1 := (Below.refl w.heap.size w).grown hg1 (Nat.le_refl _) (fun k hk => by cases hk)
  go_loopw [5, 13] (fun o i wr => ∃ k : Nat, i = .int .i64 k ∧ k ≤ l.length ∧ wr.ownsRow w.heap.size 9 1 o k (strv ((l.take k).map (·.name))) ∧ Below w.heap.size w wr) (fun _ i _ => l.length - (intOf i).toNat)
  case atStart => exact ⟨0, rfl, by omega, hown1, hb1⟩
  case round =>
    obtain ⟨k, rfl, hk, hown, hb⟩ := hrel
    by_cases hlt : k < l.length
    · obtain ⟨m, hm⟩ : ∃ m, l[k]? = some m := ⟨_, List.getElem?_eq_getElem hlt⟩
      obtain ⟨ad, vF, rfl, _, hmr, c0, c1⟩ := mdr_at (HS.out.low hA (Low.below hb hB)) (HA.out.low (Low.below hb hB)) hm
      obtain ⟨_, _, rfl, -, -⟩ := hmr
      have HN := Lib.hid (strv_next (·.name) hm)
      clear hm
      go_wp2_with (first
        | (at_builtin; refine wpList_app1 rfl _ _ 48 rfl w.heap.size 9 i0 _ 16 Tryz.underlying48 hi hz0 hz1 hz2 rfl _ k _ rfl (((hown.alloc _).alloc _).alloc _) _ 1 (.string (txt m.name)) rfl (World.cell?_alloc_at _ _ _ _ (by simp)) rfl (by unfold maxLen; omega) (by omega) (by have := hb.size; simp; omega) ?_; intro v3 w3 hown3 hg3)
        | (go_at_call 46; refine (clo_eachMd_any m _ _ _ _).mono ?_; rintro e w2 ⟨rfl, rfl⟩))
      rw [HN.out] at hown3
      exact ⟨⟨k + 1, by go_num, by omega, hown3, (below_lit (below_lit (below_lit hb _) _) _).grown hg3 (by have := hb.size; simp; omega) (own_ge hown)⟩, by simp [intOf]; omega⟩
    · obtain rfl : k = l.length := by omega
      rw [List.take_length] at hown
      go_wp2
      go_ret
      exact ⟨_, rfl, hown, hb⟩
theorem clo_eachEd_any (m : Ed) (a1 : Option Addr) (n1 k1 : Nat) (a2 : Option Addr) (n2 k2 : Nat) (w : World) : Calls Tryz.prog 48 #[.agg #[.string (txt m.name), .slice a1 n1 k1, .slice a2 n2 k2]] w fun e w' => e = .returned (.string (txt m.name)) ∧ w' = w.alloc (.cells #[.string (txt m.name), .slice a1 n1 k1, .slice a2 n2 k2] 68) := by
  go_enter Tryz.func48, Tryz.ntmps48
  go_wp2
  go_ret
  exact ⟨rfl, rfl⟩
set_option maxRecDepth 1000000 in
set_option maxHeartbeats 2000000 in
theorem eachEd_any (B : Nat) (v : Value) (xs : List Value) (l : List Ed) (hl : l.length ≤ 100000) (w : World) (hB : B ≤ w.heap.size) (hr : Rb B w v l.length 3 xs) (ha : EdsAt B w l xs) :
    Calls Tryz.prog 47 #[v, .func (.func 48) #[] #[]] w fun e w' => ∃ v', e = .returned v' ∧ w'.ownsRow w.heap.size 9 1 v' l.length (strv (l.map (·.name))) ∧ Below w.heap.size w w' := by
  obtain ⟨A, c, rfl, hs, hA⟩ := hr
  obtain ⟨i0, hi, hz0, hz1, hz2⟩ := info_parts infoStrs
  have HS := Lib.hid hs
  have HA := Lib.hid ha
  clear hs ha
  go_enter Tryz.func47, Tryz.ntmps47
  go_wp2_with (at_make; refine wpList_make_own _ rfl _ _ 48 rfl w.heap.size 9 i0 _ 1 Tryz.underlying48 hi hz0 hz1 _ _ _ l.length rfl rfl rfl (by rw [hz2]; omega) (by unfold maxLen; omega) (Nat.le_refl _) ?_; intro w1 hown1 hg1)
  have hb1 : Below w.heap.size w w1 := (Below.refl w.heap.size w).grown hg1 (Nat.le_refl _) (fun k hk => by cases hk)
  go_loopw [5, 13] (fun o i wr => ∃ k : Nat, i = .int .i64 k ∧ k ≤ l.length ∧ wr.ownsRow w.heap.size 9 1 o k (strv ((l.take k).map (·.name))) ∧ Below w.heap.size w wr) (fun _ i _ => l.length - (intOf i).toNat)
  case atStart => exact ⟨0, rfl, by omega, hown1, hb1⟩
  case round =>
    obtain ⟨k, rfl, hk, hown, hb⟩ := hrel
    by_cases hlt : k < l.length
    · obtain ⟨m, hm⟩ : ∃ m, l[k]? = some m := ⟨_, List.getElem?_eq_getElem hlt⟩
      obtain ⟨ad, vV, vN, rfl, _, hmr, hms, c0, c1, c2⟩ := edr_at (HS.out.low hA (Low.below hb hB)) (HA.out.low (Low.below hb hB)) hm
      obtain ⟨_, _, rfl, -, -⟩ := hmr
      obtain ⟨_, _, rfl, -, -⟩ := hms
      have HN := Lib.hid (strv_next (·.name) hm)
      clear hm
      go_wp2_with (first
        | (at_builtin; refine wpList_app1 rfl _ _ 48 rfl w.heap.size 9 i0 _ 16 Tryz.underlying48 hi hz0 hz1 hz2 rfl _ k _ rfl (((hown.alloc _).alloc _).alloc _) _ 1 (.string (txt m.name)) rfl (World.cell?_alloc_at _ _ _ _ (by simp)) rfl (by unfold maxLen; omega) (by omega) (by have := hb.size; simp; omega) ?_; intro v3 w3 hown3 hg3)
        | (go_at_call 48; refine (clo_eachEd_any m _ _ _ _ _ _ _).mono ?_; rintro e w2 ⟨rfl, rfl⟩))
      rw [HN.out] at hown3
      exact ⟨⟨k + 1, by go_num, by omega, hown3, (below_lit (below_lit (below_lit hb _) _) _).grown hg3 (by have := hb.size; simp; omega) (own_ge hown)⟩, by simp [intOf]; omega⟩
    · obtain rfl : k = l.length := by omega
      rw [List.take_length] at hown
      go_wp2
      go_ret
      exact ⟨_, rfl, hown, hb⟩
theorem clo_eachFdN_any (m : Fd) (w : World) : Calls Tryz.prog 71 #[.agg #[.string (txt m.type), .string (txt m.key), .bool m.rep, .int .i64 m.one, .string (txt m.name), .int .i64 m.no, .int .i64 m.at_]] w fun e w' => e = .returned (.string (txt m.name)) ∧ w' = w.alloc (.cells #[.string (txt m.type), .string (txt m.key), .bool m.rep, .int .i64 m.one, .string (txt m.name), .int .i64 m.no, .int .i64 m.at_] 53) := by
  go_enter Tryz.func71, Tryz.ntmps71
  go_wp2
  go_ret
  exact ⟨rfl, rfl⟩
set_option maxRecDepth 1000000 in
set_option maxHeartbeats 2000000 in
theorem eachFdN_any (B : Nat) (v : Value) (l : List Fd) (hl : l.length ≤ 100000) (w : World) (hB : B ≤ w.heap.size) (hr : Rb B w v l.length 7 (fdv l)) :
    Calls Tryz.prog 70 #[v, .func (.func 71) #[] #[]] w fun e w' => ∃ v', e = .returned v' ∧ w'.ownsRow w.heap.size 9 1 v' l.length (strv (l.map (·.name))) ∧ Below w.heap.size w w' := by
  obtain ⟨A, c, rfl, hs, hA⟩ := hr
  obtain ⟨i0, hi, hz0, hz1, hz2⟩ := info_parts infoStrs
  have HS := Lib.hid hs
  clear hs
  go_enter Tryz.func70, Tryz.ntmps70
  go_wp2_with (at_make; refine wpList_make_own _ rfl _ _ 48 rfl w.heap.size 9 i0 _ 1 Tryz.underlying48 hi hz0 hz1 _ _ _ l.length rfl rfl rfl (by rw [hz2]; omega) (by unfold maxLen; omega) (Nat.le_refl _) ?_; intro w1 hown1 hg1)
  have hb1 : Below w.heap.size w w1 := (Below.refl w.heap.size w).grown hg1 (Nat.le_refl _) (fun k hk => by cases hk)
  go_loopw [5, 13] (fun o i wr => ∃ k : Nat, i = .int .i64 k ∧ k ≤ l.length ∧ wr.ownsRow w.heap.size 9 1 o k (strv ((l.take k).map (·.name))) ∧ Below w.heap.size w wr) (fun _ i _ => l.length - (intOf i).toNat)
  case atStart => exact ⟨0, rfl, by omega, hown1, hb1⟩
  case round =>
    obtain ⟨k, rfl, hk, hown, hb⟩ := hrel
    by_cases hlt : k < l.length
    · obtain ⟨m, hm⟩ : ∃ m, l[k]? = some m := ⟨_, List.getElem?_eq_getElem hlt⟩
      obtain ⟨ad, rfl, _, c0, c1, c2, c3, c4, c5, c6⟩ := fdr_at (HS.out.low hA (Low.below hb hB)) hm
      have HN := Lib.hid (strv_next (·.name) hm)
      clear hm
      go_wp2_with (first
        | (at_builtin; refine wpList_app1 rfl _ _ 48 rfl w.heap.size 9 i0 _ 16 Tryz.underlying48 hi hz0 hz1 hz2 rfl _ k _ rfl (((hown.alloc _).alloc _).alloc _) _ 1 (.string (txt m.name)) rfl (World.cell?_alloc_at _ _ _ _ (by simp)) rfl (by unfold maxLen; omega) (by omega) (by have := hb.size; simp; omega) ?_; intro v3 w3 hown3 hg3)
        | (go_at_call 71; refine (clo_eachFdN_any m _).mono ?_; rintro e w2 ⟨rfl, rfl⟩))
      rw [HN.out] at hown3
      exact ⟨⟨k + 1, by go_num, by omega, hown3, (below_lit (below_lit (below_lit hb _) _) _).grown hg3 (by have := hb.size; simp; omega) (own_ge hown)⟩, by simp [intOf]; omega⟩
    · obtain rfl : k = l.length := by omega
      rw [List.take_length] at hown
      go_wp2
      go_ret
      exact ⟨_, rfl, hown, hb⟩
theorem clo_eachFdI_any (m : Fd) (w : World) : Calls Tryz.prog 75 #[.agg #[.string (txt m.type), .string (txt m.key), .bool m.rep, .int .i64 m.one, .string (txt m.name), .int .i64 m.no, .int .i64 m.at_]] w fun e w' => e = .returned (.int .i64 (m.no)) ∧ w' = w.alloc (.cells #[.string (txt m.type), .string (txt m.key), .bool m.rep, .int .i64 m.one, .string (txt m.name), .int .i64 m.no, .int .i64 m.at_] 53) := by
  go_enter Tryz.func75, Tryz.ntmps75
  go_wp2
  go_ret
  exact ⟨rfl, rfl⟩
set_option maxRecDepth 1000000 in
set_option maxHeartbeats 2000000 in
theorem eachFdI_any (B : Nat) (v : Value) (l : List Fd) (hl : l.length ≤ 100000) (w : World) (hB : B ≤ w.heap.size) (hr : Rb B w v l.length 7 (fdv l)) :
    Calls Tryz.prog 74 #[v, .func (.func 75) #[] #[]] w fun e w' => ∃ v', e = .returned v' ∧ w'.ownsRow w.heap.size 2 1 v' l.length (intv (l.map (·.no))) ∧ Below w.heap.size w w' := by
  obtain ⟨A, c, rfl, hs, hA⟩ := hr
  obtain ⟨i0, hi, hz0, hz1, hz2⟩ := info_parts infoI64s
  have HS := Lib.hid hs
  clear hs
  go_enter Tryz.func74, Tryz.ntmps74
  go_wp2_with (at_make; refine wpList_make_own _ rfl _ _ 49 rfl w.heap.size 2 i0 _ 1 Tryz.underlying49 hi hz0 hz1 _ _ _ l.length rfl rfl rfl (by rw [hz2]; omega) (by unfold maxLen; omega) (Nat.le_refl _) ?_; intro w1 hown1 hg1)
  have hb1 : Below w.heap.size w w1 := (Below.refl w.heap.size w).grown hg1 (Nat.le_refl _) (fun k hk => by cases hk)
  go_loopw [5, 13] (fun o i wr => ∃ k : Nat, i = .int .i64 k ∧ k ≤ l.length ∧ wr.ownsRow w.heap.size 2 1 o k (intv ((l.take k).map (·.no))) ∧ Below w.heap.size w wr) (fun _ i _ => l.length - (intOf i).toNat)
  case atStart => exact ⟨0, rfl, by omega, hown1, hb1⟩
  case round =>
    obtain ⟨k, rfl, hk, hown, hb⟩ := hrel
    by_cases hlt : k < l.length
    · obtain ⟨m, hm⟩ : ∃ m, l[k]? = some m := ⟨_, List.getElem?_eq_getElem hlt⟩
      obtain ⟨ad, rfl, _, c0, c1, c2, c3, c4, c5, c6⟩ := fdr_at (HS.out.low hA (Low.below hb hB)) hm
      have HN := Lib.hid (intv_next (·.no) hm)
      clear hm
      go_wp2_with (first
        | (at_builtin; refine wpList_app1 rfl _ _ 49 rfl w.heap.size 2 i0 _ 8 Tryz.underlying49 hi hz0 hz1 hz2 rfl _ k _ rfl (((hown.alloc _).alloc _).alloc _) _ 1 (.int .i64 (m.no)) rfl (World.cell?_alloc_at _ _ _ _ (by simp)) rfl (by unfold maxLen; omega) (by omega) (by have := hb.size; simp; omega) ?_; intro v3 w3 hown3 hg3)
        | (go_at_call 75; refine (clo_eachFdI_any m _).mono ?_; rintro e w2 ⟨rfl, rfl⟩))
      rw [HN.out] at hown3
      exact ⟨⟨k + 1, by go_num, by omega, hown3, (below_lit (below_lit (below_lit hb _) _) _).grown hg3 (by have := hb.size; simp; omega) (own_ge hown)⟩, by simp [intOf]; omega⟩
    · obtain rfl : k = l.length := by omega
      rw [List.take_length] at hown
      go_wp2
      go_ret
      exact ⟨_, rfl, hown, hb⟩
theorem clo_eachVlN_any (m : Vl) (w : World) : Calls Tryz.prog 85 #[.agg #[.string (txt m.name), .int .i64 m.n, .int .i64 m.at_]] w fun e w' => e = .returned (.string (txt m.name)) ∧ w' = w.alloc (.cells #[.string (txt m.name), .int .i64 m.n, .int .i64 m.at_] 83) := by
  go_enter Tryz.func85, Tryz.ntmps85
  go_wp2
  go_ret
  exact ⟨rfl, rfl⟩
set_option maxRecDepth 1000000 in
set_option maxHeartbeats 2000000 in
theorem eachVlN_any (B : Nat) (v : Value) (l : List Vl) (hl : l.length ≤ 100000) (w : World) (hB : B ≤ w.heap.size) (hr : Rb B w v l.length 3 (vlv l)) :
    Calls Tryz.prog 84 #[v, .func (.func 85) #[] #[]] w fun e w' => ∃ v', e = .returned v' ∧ w'.ownsRow w.heap.size 9 1 v' l.length (strv (l.map (·.name))) ∧ Below w.heap.size w w' := by
  obtain ⟨A, c, rfl, hs, hA⟩ := hr
  obtain ⟨i0, hi, hz0, hz1, hz2⟩ := info_parts infoStrs
  have HS := Lib.hid hs
  clear hs
  go_enter Tryz.func84, Tryz.ntmps84
  go_wp2_with (at_make; refine wpList_make_own _ rfl _ _ 48 rfl w.heap.size 9 i0 _ 1 Tryz.underlying48 hi hz0 hz1 _ _ _ l.length rfl rfl rfl (by rw [hz2]; omega) (by unfold maxLen; omega) (Nat.le_refl _) ?_; intro w1 hown1 hg1)
  have hb1 : Below w.heap.size w w1 := (Below.refl w.heap.size w).grown hg1 (Nat.le_refl _) (fun k hk => by cases hk)
  go_loopw [5, 13] (fun o i wr => ∃ k : Nat, i = .int .i64 k ∧ k ≤ l.length ∧ wr.ownsRow w.heap.size 9 1 o k (strv ((l.take k).map (·.name))) ∧ Below w.heap.size w wr) (fun _ i _ => l.length - (intOf i).toNat)
  case atStart => exact ⟨0, rfl, by omega, hown1, hb1⟩
  case round =>
    obtain ⟨k, rfl, hk, hown, hb⟩ := hrel
    by_cases hlt : k < l.length
    · obtain ⟨m, hm⟩ : ∃ m, l[k]? = some m := ⟨_, List.getElem?_eq_getElem hlt⟩
      obtain ⟨ad, rfl, _, c0, c1, c2⟩ := vlr_at (HS.out.low hA (Low.below hb hB)) hm
      have HN := Lib.hid (strv_next (·.name) hm)
      clear hm
      go_wp2_with (first
        | (at_builtin; refine wpList_app1 rfl _ _ 48 rfl w.heap.size 9 i0 _ 16 Tryz.underlying48 hi hz0 hz1 hz2 rfl _ k _ rfl (((hown.alloc _).alloc _).alloc _) _ 1 (.string (txt m.name)) rfl (World.cell?_alloc_at _ _ _ _ (by simp)) rfl (by unfold maxLen; omega) (by omega) (by have := hb.size; simp; omega) ?_; intro v3 w3 hown3 hg3)
        | (go_at_call 85; refine (clo_eachVlN_any m _).mono ?_; rintro e w2 ⟨rfl, rfl⟩))
      rw [HN.out] at hown3
      exact ⟨⟨k + 1, by go_num, by omega, hown3, (below_lit (below_lit (below_lit hb _) _) _).grown hg3 (by have := hb.size; simp; omega) (own_ge hown)⟩, by simp [intOf]; omega⟩
    · obtain rfl : k = l.length := by omega
      rw [List.take_length] at hown
      go_wp2
      go_ret
      exact ⟨_, rfl, hown, hb⟩
theorem clo_eachVlI_any (m : Vl) (w : World) : Calls Tryz.prog 87 #[.agg #[.string (txt m.name), .int .i64 m.n, .int .i64 m.at_]] w fun e w' => e = .returned (.int .i64 (m.n)) ∧ w' = w.alloc (.cells #[.string (txt m.name), .int .i64 m.n, .int .i64 m.at_] 83) := by
  go_enter Tryz.func87, Tryz.ntmps87
  go_wp2
  go_ret
  exact ⟨rfl, rfl⟩
set_option maxRecDepth 1000000 in
set_option maxHeartbeats 2000000 in
theorem eachVlI_any (B : Nat) (v : Value) (l : List Vl) (hl : l.length ≤ 100000) (w : World) (hB : B ≤ w.heap.size) (hr : Rb B w v l.length 3 (vlv l)) :
    Calls Tryz.prog 86 #[v, .func (.func 87) #[] #[]] w fun e w' => ∃ v', e = .returned v' ∧ w'.ownsRow w.heap.size 2 1 v' l.length (intv (l.map (·.n))) ∧ Below w.heap.size w w' := by
  obtain ⟨A, c, rfl, hs, hA⟩ := hr
  obtain ⟨i0, hi, hz0, hz1, hz2⟩ := info_parts infoI64s
  have HS := Lib.hid hs
  clear hs
  go_enter Tryz.func86, Tryz.ntmps86
  go_wp2_with (at_make; refine wpList_make_own _ rfl _ _ 49 rfl w.heap.size 2 i0 _ 1 Tryz.underlying49 hi hz0 hz1 _ _ _ l.length rfl rfl rfl (by rw [hz2]; omega) (by unfold maxLen; omega) (Nat.le_refl _) ?_; intro w1 hown1 hg1)
  have hb1 : Below w.heap.size w w1 := (Below.refl w.heap.size w).grown hg1 (Nat.le_refl _) (fun k hk => by cases hk)
  go_loopw [5, 13] (fun o i wr => ∃ k : Nat, i = .int .i64 k ∧ k ≤ l.length ∧ wr.ownsRow w.heap.size 2 1 o k (intv ((l.take k).map (·.n))) ∧ Below w.heap.size w wr) (fun _ i _ => l.length - (intOf i).toNat)
  case atStart => exact ⟨0, rfl, by omega, hown1, hb1⟩
  case round =>
    obtain ⟨k, rfl, hk, hown, hb⟩ := hrel
    by_cases hlt : k < l.length
    · obtain ⟨m, hm⟩ : ∃ m, l[k]? = some m := ⟨_, List.getElem?_eq_getElem hlt⟩
      obtain ⟨ad, rfl, _, c0, c1, c2⟩ := vlr_at (HS.out.low hA (Low.below hb hB)) hm
      have HN := Lib.hid (intv_next (·.n) hm)
      clear hm
      go_wp2_with (first
        | (at_builtin; refine wpList_app1 rfl _ _ 49 rfl w.heap.size 2 i0 _ 8 Tryz.underlying49 hi hz0 hz1 hz2 rfl _ k _ rfl (((hown.alloc _).alloc _).alloc _) _ 1 (.int .i64 (m.n)) rfl (World.cell?_alloc_at _ _ _ _ (by simp)) rfl (by unfold maxLen; omega) (by omega) (by have := hb.size; simp; omega) ?_; intro v3 w3 hown3 hg3)
        | (go_at_call 87; refine (clo_eachVlI_any m _).mono ?_; rintro e w2 ⟨rfl, rfl⟩))
      rw [HN.out] at hown3
      exact ⟨⟨k + 1, by go_num, by omega, hown3, (below_lit (below_lit (below_lit hb _) _) _).grown hg3 (by have := hb.size; simp; omega) (own_ge hown)⟩, by simp [intOf]; omega⟩
    · obtain rfl : k = l.length := by omega
      rw [List.take_length] at hown
      go_wp2
      go_ret
      exact ⟨_, rfl, hown, hb⟩
theorem clo_eachDf_any (m : Df) (w : World) : Calls Tryz.prog 101 #[.agg #[.int .i64 m.no, .string (txt m.name), .int .i64 m.kind, .int .i64 m.ref, .bool m.rep, .int .i64 m.key, .int .i64 m.one]] w fun e w' => e = .returned (.string (txt m.name)) ∧ w' = w.alloc (.cells #[.int .i64 m.no, .string (txt m.name), .int .i64 m.kind, .int .i64 m.ref, .bool m.rep, .int .i64 m.key, .int .i64 m.one] 39) := by
  go_enter Tryz.func101, Tryz.ntmps101
  go_wp2
  go_ret
  exact ⟨rfl, rfl⟩
set_option maxRecDepth 1000000 in
set_option maxHeartbeats 2000000 in
theorem eachDf_any (B : Nat) (v : Value) (l : List Df) (hl : l.length ≤ 100000) (w : World) (hB : B ≤ w.heap.size) (hr : Rb B w v l.length 7 (dfv l)) :
    Calls Tryz.prog 100 #[v, .func (.func 101) #[] #[]] w fun e w' => ∃ v', e = .returned v' ∧ w'.ownsRow w.heap.size 9 1 v' l.length (strv (l.map (·.name))) ∧ Below w.heap.size w w' := by
  obtain ⟨A, c, rfl, hs, hA⟩ := hr
  obtain ⟨i0, hi, hz0, hz1, hz2⟩ := info_parts infoStrs
  have HS := Lib.hid hs
  clear hs
  go_enter Tryz.func100, Tryz.ntmps100
  go_wp2_with (at_make; refine wpList_make_own _ rfl _ _ 48 rfl w.heap.size 9 i0 _ 1 Tryz.underlying48 hi hz0 hz1 _ _ _ l.length rfl rfl rfl (by rw [hz2]; omega) (by unfold maxLen; omega) (Nat.le_refl _) ?_; intro w1 hown1 hg1)
  have hb1 : Below w.heap.size w w1 := (Below.refl w.heap.size w).grown hg1 (Nat.le_refl _) (fun k hk => by cases hk)
  go_loopw [5, 13] (fun o i wr => ∃ k : Nat, i = .int .i64 k ∧ k ≤ l.length ∧ wr.ownsRow w.heap.size 9 1 o k (strv ((l.take k).map (·.name))) ∧ Below w.heap.size w wr) (fun _ i _ => l.length - (intOf i).toNat)
  case atStart => exact ⟨0, rfl, by omega, hown1, hb1⟩
  case round =>
    obtain ⟨k, rfl, hk, hown, hb⟩ := hrel
    by_cases hlt : k < l.length
    · obtain ⟨m, hm⟩ : ∃ m, l[k]? = some m := ⟨_, List.getElem?_eq_getElem hlt⟩
      obtain ⟨ad, rfl, _, c0, c1, c2, c3, c4, c5, c6⟩ := dfr_at (HS.out.low hA (Low.below hb hB)) hm
      have HN := Lib.hid (strv_next (·.name) hm)
      clear hm
      go_wp2_with (first
        | (at_builtin; refine wpList_app1 rfl _ _ 48 rfl w.heap.size 9 i0 _ 16 Tryz.underlying48 hi hz0 hz1 hz2 rfl _ k _ rfl (((hown.alloc _).alloc _).alloc _) _ 1 (.string (txt m.name)) rfl (World.cell?_alloc_at _ _ _ _ (by simp)) rfl (by unfold maxLen; omega) (by omega) (by have := hb.size; simp; omega) ?_; intro v3 w3 hown3 hg3)
        | (go_at_call 101; refine (clo_eachDf_any m _).mono ?_; rintro e w2 ⟨rfl, rfl⟩))
      rw [HN.out] at hown3
      exact ⟨⟨k + 1, by go_num, by omega, hown3, (below_lit (below_lit (below_lit hb _) _) _).grown hg3 (by have := hb.size; simp; omega) (own_ge hown)⟩, by simp [intOf]; omega⟩
    · obtain rfl : k = l.length := by omega
      rw [List.take_length] at hown
      go_wp2
      go_ret
      exact ⟨_, rfl, hown, hb⟩
end Go.Proofs.YtciiemomfniecaaGreatDoor
/-
  What is wrong with a message, or an enum, ahead of all that stands in it: the contract.
-/
namespace Go.Proofs.YtciiemomfniecaaGreatDoor
set_option maxRecDepth 100000

open Go.RowKit Go.Maps

theorem box_kept {w w' : World} {g b : Nat} {o : Obj} (h : w.heap[g]? = some o) (hg : w.grownBy w' (some b)) (hne : g ≠ b) : w'.heap[g]? = some o :=
  (hg.block g (Array.getElem?_eq_some_iff.1 h).1 (fun e => hne (by injection e))).trans h
theorem box2 {w : World} {g : Nat} {a b : Value} {t : TypeId} (h : w.heap[g]? = some (.cells #[a, b] t (0, 0))) : w.heap[g]? = some (.cells #[a, b] t (0, 0)) ∧ w.cell? ⟨g, 0, none⟩ = some a ∧ w.cell? ⟨g, 1, none⟩ = some b :=
  ⟨h, by rw [heap_cell h 0]; rfl, by rw [heap_cell h 1]; rfl⟩
theorem box2_below {w w' : World} {g : Nat} {a b : Value} {t : TypeId} (hb : Below w.heap.size w w') (h : w.heap[g]? = some (.cells #[a, b] t (0, 0)) ∧ w.cell? ⟨g, 0, none⟩ = some a ∧ w.cell? ⟨g, 1, none⟩ = some b) : w'.heap[g]? = some (.cells #[a, b] t (0, 0)) ∧ w'.cell? ⟨g, 0, none⟩ = some a ∧ w'.cell? ⟨g, 1, none⟩ = some b :=
  box2 ((hb.block g (Array.getElem?_eq_some_iff.1 h.1).1).trans h.1)
theorem hd_ms {f : Fl} {k : Nat} {m : Ms} (hm : f.M[k]? = some m) : (namesF f)[k]? = some m.name ∧ hdAt f k = m.at_ ∧ hdLong f k = (decide (30 < m.F.length) || decide (30 < m.ones.length)) := by
  have hlt := (List.getElem?_eq_some_iff.1 hm).1
  refine ⟨?_, ?_, ?_⟩
  · unfold namesF
    rw [List.getElem?_append_left (by simpa using hlt), List.getElem?_map, hm]; rfl
  · unfold hdAt; rw [if_pos hlt, hm]; rfl
  · unfold hdLong; rw [if_pos hlt, hm]; rfl
theorem hd_en {f : Fl} {k : Nat} {e : En} (he : f.E[k]? = some e) : (namesF f)[f.M.length + k]? = some e.name ∧ hdAt f (f.M.length + k) = e.at_ ∧ hdLong f (f.M.length + k) = (decide (e.V.length < 1) || decide (30 < e.V.length)) := by
  have e1 : f.M.length + k - f.M.length = k := by omega
  refine ⟨?_, ?_, ?_⟩
  · unfold namesF
    rw [List.getElem?_append_right (by simp), List.length_map, e1, List.getElem?_map, he]; rfl
  · unfold hdAt; rw [if_neg (by omega), e1, he]; rfl
  · unfold hdLong; rw [if_neg (by omega), e1, he]; rfl
theorem hdErr_is {f : Fl} {k : Nat} {x : List UInt8} (hx : (namesF f)[k]? = some x) : hdErr f k = if stillT (namesF f) k x then (if hdLong f k then some (hdAt f k, 2) else none) else some (hdAt f k, 4) := by
  have e : (namesF f).getD k [] = x := by rw [List.getD_eq_getElem?_getD, hx]; rfl
  rw [stillT_self hx]
  unfold hdErr
  rw [e]
  cases h : ((typeK x).isSome || ((namesF f).take k).contains x) <;> simp [h]
theorem stillT_next {l : List (List UInt8)} {k : Nat} {x : List UInt8} (h : l[k]? = some x) : (fun y => stillT l k y && decide (y ≠ x)) = stillT l (k + 1) := still_next h
theorem heads_at {f : Fl} {k : Nat} {r : Int × Nat} (h : ∀ j, j < k → hdErr f j = none) (hk : k < (namesF f).length) (hr : hdErr f k = some r) : errH f = some r := findSome_range h hk hr
theorem heads_none {f : Fl} (h : ∀ j, j < (namesF f).length → hdErr f j = none) : errH f = none := by
  unfold errH
  rw [List.findSome?_eq_none_iff]
  exact fun j hj => h j (List.mem_range.1 hj)
/-- What a function tells of a fault, or of none. -/
def errV2 (r : Option (Int × Nat)) : Value := .tuple #[.int .i64 ((r.map (·.1)).getD 0), .int .i64 (((r.map (·.2)).getD 0 : Nat) : Int)]
theorem names_in {f : Fl} (h : FlIn f) : ∀ x ∈ f.M.map (·.name) ++ f.E.map (·.name), x.length ≤ maxLen := by
  intro x hx
  rcases List.mem_append.1 hx with hx | hx
  · obtain ⟨m, hm, rfl⟩ := List.mem_map.1 hx
    exact (h.M m hm).name
  · obtain ⟨e, he, rfl⟩ := List.mem_map.1 hx
    exact (h.E e he).name

set_option maxRecDepth 1000000 in
set_option maxHeartbeats 8000000 in
theorem checkHeads_any (B : Nat) (f : Fl) (vM vE : Value) (w : World) (hB : B ≤ w.heap.size) (hf : FAt B w f vM vE) (hin : FlIn f) (hM : f.M.length ≤ 20) (hE : f.E.length ≤ 20) (T : Tabs w) :
    Calls Tryz.prog 32 #[.agg #[vM, vE]] w fun e w' => e = .returned (errV2 (errH f)) ∧ Below w.heap.size w w' := by
  obtain ⟨xs, ys, h1, h2, h3, h4⟩ := hf
  have H1 := Lib.hid (fun wx (hx : Below w.heap.size w wx) => eachMs_any B vM xs f.M (by omega) wx (Nat.le_trans hB hx.size) (h1.low (Low.below hx hB)) (h2.low (Low.below hx hB)))
  have H2 := Lib.hid (fun wx (hx : Below w.heap.size w wx) => eachEn_any B vE ys f.E (by omega) wx (Nat.le_trans hB hx.size) (h3.low (Low.below hx hB)) (h4.low (Low.below hx hB)))
  have H3 := Lib.hid (fun u1 u2 wx (hT : Tabs wx) r1 r2 => typeNames_any u1 u2 (f.M.map (·.name)) (f.E.map (·.name)) wx hT (by simpa using r1) (by simpa using r2) (by simp; omega) (names_in hin))
  obtain ⟨A1, q1, rfl, s1, b1⟩ := h1
  obtain ⟨A2, q2, rfl, s2, b2⟩ := h3
  have HM := Lib.hid s1
  have HE := Lib.hid s2
  have HMA := Lib.hid h2
  have HEA := Lib.hid h4
  have HIN := Lib.hid hin
  have HTB := Lib.hid T
  clear s1 s2 h2 h4 hin T
  have hbw := below_new w (.cells #[.slice A1 f.M.length q1, .slice A2 f.E.length q2] 25)
  have h0 := box2 (w := (w.alloc (.cells #[.slice A1 f.M.length q1, .slice A2 f.E.length q2] 25)).drew) (heap_alloc_new w (.cells #[.slice A1 f.M.length q1, .slice A2 f.E.length q2] 25))
  have LBD : Below w.heap.size w ((w.alloc (.cells #[.slice A1 f.M.length q1, .slice A2 f.E.length q2] 25)).drew) := hbw.trans (Below.refl _ _).drew
  clear hbw
  go_enter Tryz.func32, Tryz.ntmps32
  go_wp2_with fail
  go_region_held3 (fun w' => w'.heap[w.heap.size]? = some (.cells #[.slice A1 f.M.length q1, .slice A2 f.E.length q2] 25 (0, 0)) ∧ w'.cell? ⟨w.heap.size, 0, none⟩ = some (.slice A1 f.M.length q1) ∧ w'.cell? ⟨w.heap.size, 1, none⟩ = some (.slice A2 f.E.length q2))
    (first | exact h0 | exact box2_below hbM ‹_› | exact box2_below hbE ‹_› | exact box2_below hb4 ‹_› | go_keep)
    ((first
      | (go_at_call 64; refine (H1.out _ (by first | exact LBD | exact LBD.trans (hbE.mono LBD.size))).mono ?_; rintro e wM ⟨uM, rfl, hoM, hbM⟩)
      | (go_at_call 66; refine (H2.out _ (by first | exact LBD | exact LBD.trans (hbM.mono LBD.size))).mono ?_; rintro e wE ⟨uE, rfl, hoE, hbE⟩)
      | (go_at_call 44; refine (H3.out uM uE _ (by first | exact ((HTB.out.on LBD).on hbM).on hbE | exact ((HTB.out.on LBD).on hbE).on hbM) (by first | exact Rb.of_own hoM | exact Rb.of_own (own_below hoM hbE)) (by first | exact Rb.of_own hoE | exact Rb.of_own (own_below hoE hbM))).mono ?_; rintro e w4 ⟨b, rfl, hbl, hm4, hb4⟩)))
  all_goals
    have hbB : Below w.heap.size w w4 := by first | exact below_then (below_then (below_then LBD hbM) hbE) hb4 | exact below_then (below_then (below_then LBD hbE) hbM) hb4
    have hx4 : w4.heap[w.heap.size]? = some (.cells #[.slice A1 f.M.length q1, .slice A2 f.E.length q2] 25 (0, 0)) := by first | exact (box2_below hb4 (box2_below hbE (box2_below hbM h0))).1 | exact (box2_below hb4 (box2_below hbM (box2_below hbE h0))).1
    have hbs : w.heap.size + 1 ≤ b := by
      have h1 := hbM.size
      have h2 := hbE.size
      simp at h1 h2
      omega
    have e0 := heap_cell hx4 0
    have e1 := heap_cell hx4 1
    simp at e0 e1
    simp only [List.length_map] at hm4
    replace hm4 : FreeS w4 b (f.M.length + f.E.length) (stillT (namesF f) 0) := hm4
    have HX4 := Lib.hid hx4
    have HBB := Lib.hid hbB
    clear hx4 hb4 hbM hbE hoM hoE hbl h0 LBD hbB
    go_wp2
    go_loopw [19] (fun i wr => ∃ k : Nat, i = .int .i64 k ∧ k ≤ f.M.length ∧ (∀ j, j < k → hdErr f j = none) ∧ FreeS wr b (f.M.length + f.E.length) (stillT (namesF f) k) ∧ Below (w.heap.size + 1) w4 wr) (fun i _ => f.M.length - (intOf i).toNat)
    case atStart => exact ⟨0, rfl, by omega, fun j hj => by omega, hm4, Below.refl _ _⟩
    case round =>
      obtain ⟨k, rfl, hk, herr, hm, hb⟩ := hrel
      have hbw : Below w.heap.size w wr := HBB.out.trans (hb.mono (Nat.le_succ _))
      have HBW := Lib.hid hbw
      have HER := Lib.hid herr
      clear herr
      by_cases hlt : k < f.M.length
      · obtain ⟨m, hm0⟩ : ∃ m, f.M[k]? = some m := ⟨_, List.getElem?_eq_getElem hlt⟩
        obtain ⟨ad, vF, vO, vR, rfl, hg, hmr, c0, c1, c2, c3, c4⟩ := msr_at (HM.out.low b1 (Low.below hbw hB)) (HMA.out.low (Low.below hbw hB)) hm0
        obtain ⟨AF, cF, rfl, -, -⟩ := hmr.f
        obtain ⟨AO, cO, rfl, -, -⟩ := hmr.o
        obtain ⟨AR, cR, rfl, -, -⟩ := hmr.r
        obtain ⟨hx, ha, hl⟩ := hd_ms hm0
        have HER2 := Lib.hid (hdErr_is hx)
        have HNX := Lib.hid (stillT_next hx)
        have hmn := (HIN.out.M m (List.mem_of_getElem? hm0)).name
        have hlt2 : k < (namesF f).length := by rw [names_length]; omega
        obtain ⟨d, hd⟩ : ∃ d, stillT (namesF f) k m.name = d := ⟨_, rfl⟩
        have HT := fun wx hx => takeS_any b (f.M.length + f.E.length) (stillT (namesF f) k) m.name hmn wx hx
        simp only [hd] at HT
        rw [hd, ha, hl] at HER2
        have HTT := Lib.hid HT
        have hne : wr.heap.size ≠ b := by have := hm.lt; omega
        clear hm0 hmr hx ha hl hd HT hmn hbw
        cases d with
        | false =>
          have HE4 := Lib.hid (heads_at HER.out hlt2 HER2.out)
          go_wp2_with (go_at_call 49; refine (HTT.out _ (hm.alloc _)).mono ?_; rintro e w5 ⟨rfl, hm5, hg5⟩; have hx5 := box_kept (heap_alloc_new wr _) hg5 hne; have d4 := heap_cell hx5 4; simp at d4)
          go_ret2
          exact ⟨by rw [HE4.out]; rfl, (below_lit HBW.out _).grown hg5 (by have := HBW.out.size; simp; omega) (fun j hj => by injection hj with hj; omega)⟩
        | true =>
          by_cases g1 : 30 < m.F.length ∨ 30 < m.ones.length
          · have HE4 := Lib.hid (heads_at (r := (m.at_, 2)) HER.out hlt2 (by
              rw [HER2.out]
              have : (decide (30 < m.F.length) || decide (30 < m.ones.length)) = true := by simpa using g1
              rw [this]; rfl))
            obtain ⟨a1, ha1⟩ : ∃ a, decide ((30 : Int) < (m.F.length : Int)) = a := ⟨_, rfl⟩
            obtain ⟨a2, ha2⟩ : ∃ a, decide ((30 : Int) < (m.ones.length : Int)) = a := ⟨_, rfl⟩
            have HG : Hid ((a1 || a2) = true) := Lib.hid (by rw [← ha1, ← ha2]; simp; omega)
            clear g1
            cases a1 <;> cases a2
            · exact absurd HG.out (by simp)
            all_goals
              go_wp2_with (go_at_call 49; refine (HTT.out _ (hm.alloc _)).mono ?_; rintro e w5 ⟨rfl, hm5, hg5⟩; have hx5 := box_kept (heap_alloc_new wr _) hg5 hne; have d1 := heap_cell hx5 1; have d2 := heap_cell hx5 2; have d4 := heap_cell hx5 4; simp at d1 d2 d4)
              go_ret2
              exact ⟨by rw [HE4.out]; rfl, (below_lit HBW.out _).grown hg5 (by have := HBW.out.size; simp; omega) (fun j hj => by injection hj with hj; omega)⟩
          · have hd1 : decide ((30 : Int) < (m.F.length : Int)) = false := by rw [decide_eq_false_iff_not]; omega
            have hd2 : decide ((30 : Int) < (m.ones.length : Int)) = false := by rw [decide_eq_false_iff_not]; omega
            have HE4 : Hid (hdErr f k = none) := Lib.hid (by
              rw [HER2.out]
              have : (decide (30 < m.F.length) || decide (30 < m.ones.length)) = false := by simp; omega
              rw [this]; rfl)
            clear g1
            go_wp2_with (go_at_call 49; refine (HTT.out _ (hm.alloc _)).mono ?_; rintro e w5 ⟨rfl, hm5, hg5⟩; have hx5 := box_kept (heap_alloc_new wr _) hg5 hne; have d1 := heap_cell hx5 1; have d2 := heap_cell hx5 2; have d4 := heap_cell hx5 4; simp at d1 d2 d4)
            refine ⟨⟨k + 1, by go_num, by omega, fun j hj => ?_, hm5.eq HNX.out, (hb.alloc (by have := hm.lt; omega) _).grown hg5 (by have := hm.lt; simp; omega) (fun j hj => by injection hj with hj; omega)⟩, by simp [intOf]; omega⟩
            by_cases hj2 : j < k
            · exact HER.out j hj2
            · obtain rfl : j = k := by omega
              exact HE4.out
      · obtain rfl : k = f.M.length := by omega
        have hx6 : wr.heap[w.heap.size]? = some (.cells #[.slice A1 f.M.length q1, .slice A2 f.E.length q2] 25 (0, 0)) := (hb.block w.heap.size (by omega)).trans HX4.out
        have e6 := heap_cell hx6 1
        simp at e6
        clear hx6
        go_wp2
        go_loopw [46] (fun i wy => ∃ k : Nat, i = .int .i64 k ∧ k ≤ f.E.length ∧ (∀ j, j < f.M.length + k → hdErr f j = none) ∧ FreeS wy b (f.M.length + f.E.length) (stillT (namesF f) (f.M.length + k)) ∧ Below (w.heap.size + 1) w4 wy) (fun i _ => f.E.length - (intOf i).toNat)
        case atStart => exact ⟨0, rfl, by omega, fun j hj => HER.out j hj, hm, hb⟩
        case round =>
          obtain ⟨k, rfl, hk, herr, hm, hb⟩ := hrel
          have hbw := HBB.out.trans (hb.mono (Nat.le_succ _))
          have HBW := Lib.hid hbw
          have HER := Lib.hid herr
          clear herr
          by_cases hlt : k < f.E.length
          · obtain ⟨m, hm0⟩ : ∃ m, f.E[k]? = some m := ⟨_, List.getElem?_eq_getElem hlt⟩
            obtain ⟨ad, vV, rfl, hg, hmr, c0, c1, c2⟩ := enr_at (HE.out.low b2 (Low.below hbw hB)) (HEA.out.low (Low.below hbw hB)) hm0
            obtain ⟨AF, cF, rfl, -, -⟩ := hmr
            obtain ⟨hx, ha, hl⟩ := hd_en hm0
            have HER2 := Lib.hid (hdErr_is hx)
            have HNX := Lib.hid (stillT_next hx)
            have hmn := (HIN.out.E m (List.mem_of_getElem? hm0)).name
            have hlt2 : f.M.length + k < (namesF f).length := by rw [names_length]; omega
            obtain ⟨d, hd⟩ : ∃ d, stillT (namesF f) (f.M.length + k) m.name = d := ⟨_, rfl⟩
            have HT := fun wx hx => takeS_any b (f.M.length + f.E.length) (stillT (namesF f) (f.M.length + k)) m.name hmn wx hx
            simp only [hd] at HT
            rw [hd, ha, hl] at HER2
            have HTT := Lib.hid HT
            have hne := Nat.ne_of_gt hm.lt
            clear hm0 hx ha hl hd HT hmn hbw
            cases d with
            | false =>
              have HE4 := Lib.hid (heads_at HER.out hlt2 HER2.out)
              go_wp2_with (go_at_call 49; refine (HTT.out _ (hm.alloc _)).mono ?_; rintro e w5 ⟨rfl, hm5, hg5⟩; have hx5 := box_kept (heap_alloc_new _ _) hg5 hne; have d4 := heap_cell hx5 2; simp at d4)
              go_ret2
              exact ⟨by rw [HE4.out]; rfl, (below_lit HBW.out _).grown hg5 (by have := HBW.out.size; simp; omega) (fun j hj => by injection hj with hj; omega)⟩
            | true =>
              obtain ⟨a1, ha1⟩ : ∃ a, (decide ((1 : Int) ≤ (m.V.length : Int)) && decide ((m.V.length : Int) ≤ 30)) = a := ⟨_, rfl⟩
              have HN := Lib.hid (fun wx => mayName_any m.V.length wx)
              rw [ha1] at HN
              cases a1 with
              | false =>
                have HE4 := Lib.hid (heads_at (r := (m.at_, 2)) HER.out hlt2 (by
                  rw [HER2.out]
                  have : (decide (m.V.length < 1) || decide (30 < m.V.length)) = true := by
                    simp only [Bool.or_eq_true, decide_eq_true_eq]
                    simp only [Bool.and_eq_false_iff, decide_eq_false_iff_not] at ha1
                    omega
                  rw [this]; rfl))
                clear ha1
                go_wp2_with (first
                  | (go_at_call 49; refine (HTT.out _ (hm.alloc _)).mono ?_; rintro e w5 ⟨rfl, hm5, hg5⟩; have hx5 := box_kept (heap_alloc_new _ _) hg5 hne; have d1 := heap_cell hx5 1; have d4 := heap_cell hx5 2; simp at d1 d4)
                  | (go_at_call 68; refine (HN.out _).mono ?_; rintro e w6 ⟨rfl, rfl⟩))
                go_ret2
                exact ⟨by rw [HE4.out]; rfl, (below_lit HBW.out _).grown hg5 (by have := HBW.out.size; simp; omega) (fun j hj => by injection hj with hj; omega)⟩
              | true =>
                have HE4 : Hid (hdErr f (f.M.length + k) = none) := Lib.hid (by
                  rw [HER2.out]
                  have : (decide (m.V.length < 1) || decide (30 < m.V.length)) = false := by
                    simp only [Bool.or_eq_false_iff, decide_eq_false_iff_not]
                    simp only [Bool.and_eq_true, decide_eq_true_eq] at ha1
                    omega
                  rw [this]; rfl)
                clear ha1
                go_wp2_with (first
                  | (go_at_call 49; refine (HTT.out _ (hm.alloc _)).mono ?_; rintro e w5 ⟨rfl, hm5, hg5⟩; have hx5 := box_kept (heap_alloc_new _ _) hg5 hne; have d1 := heap_cell hx5 1; have d4 := heap_cell hx5 2; simp at d1 d4)
                  | (go_at_call 68; refine (HN.out _).mono ?_; rintro e w6 ⟨rfl, rfl⟩))
                refine ⟨⟨k + 1, by go_num, by omega, fun j hj => ?_, hm5.eq HNX.out, (hb.alloc (by have := hm.lt; omega) _).grown hg5 (by have := hm.lt; simp; omega) (fun j hj => by injection hj with hj; omega)⟩, by simp [intOf]; omega⟩
                by_cases hj2 : j < f.M.length + k
                · exact HER.out j hj2
                · obtain rfl : j = f.M.length + k := by omega
                  exact HE4.out
          · obtain rfl : k = f.E.length := by omega
            go_wp2
            go_ret2
            refine ⟨?_, HBW.out⟩
            rw [heads_none (fun j hj => HER.out j (by rw [names_length] at hj; exact hj))]
            rfl
end Go.Proofs.YtciiemomfniecaaGreatDoor
/-
  What names mean as types: a map of pairs, its laws, and the contract of the function that makes it.
-/
namespace Go.Proofs.YtciiemomfniecaaGreatDoor
set_option maxRecDepth 100000

open Go.RowKit Go.WideMaps Go.Maps

def mnV (r : Int × Int) : Value := .agg #[.int .i64 r.1, .int .i64 r.2]
def mnD (r : Int × Int) : DataW Unit := .agg [.lit (.int .i64 r.1), .lit (.int .i64 r.2)]
/-- How a pair of numbers reads. -/
def mnElem : Value → Option (DataW Unit × List MemPlace)
  | .agg cs => match cs.toList with
    | [.int .i64 a, .int .i64 b] => some (mnD (a, b), [])
    | _ => none
  | _ => none
theorem mnElem_mk (r : Int × Int) : mnElem (mnV r) = some (mnD r, []) := rfl
theorem mnElem_inv {v : Value} {r : Int × Int} {ps : List MemPlace} (h : mnElem v = some (mnD r, ps)) : v = mnV r := by
  unfold mnElem at h
  split at h
  · rename_i cs
    split at h
    · rename_i a b hc
      simp only [Option.some.injEq, Prod.mk.injEq, mnD, DataW.agg.injEq, List.cons.injEq, DataW.lit.injEq, Lit.int.injEq, true_and, and_true] at h
      obtain ⟨⟨rfl, rfl⟩, _⟩ := h
      have : cs = #[.int .i64 r.1, .int .i64 r.2] := by rw [← hc]
      rw [this]; rfl
    · cases h
  · cases h
/-- Block b is a map of names; it tells f of them. -/
def Mean (w : World) (b n : Nat) (f : List UInt8 → Option (Int × Int)) : Prop := ∃ D : DataW Unit, w.ownsMap Tryz.prog 9 mnElem b n D ∧ ∀ x, has D (kS x) = (f x).isSome ∧ ∀ r, f x = some r → D.atKey (kS x) (mnD (0, 0)) = mnD r
theorem Mean.made (w : World) : Mean (w.alloc (.map #[] 0)) w.heap.size 0 (fun _ => none) := ⟨.map [], World.ownsMap_made w _ _ _, fun _ => ⟨rfl, fun _ h => by cases h⟩⟩
theorem Mean.mono {w : World} {b n n' : Nat} {f : List UInt8 → Option (Int × Int)} (h : Mean w b n f) (hn : n ≤ n') : Mean w b n' f := by
  obtain ⟨D, h1, h2⟩ := h
  exact ⟨D, h1.mono hn, h2⟩
theorem Mean.lt {w : World} {b n : Nat} {f : List UInt8 → Option (Int × Int)} (h : Mean w b n f) : b < w.heap.size := by
  obtain ⟨D, h1, _⟩ := h
  exact h1.lt
theorem Mean.block {w w' : World} {b n : Nat} {f : List UInt8 → Option (Int × Int)} (h : Mean w b n f) (hb : w'.heap[b]? = w.heap[b]?) : Mean w' b n f := by
  obtain ⟨D, ⟨es, clock, h1, h2⟩, h3⟩ := h
  exact ⟨D, ⟨es, clock, hb.trans h1, h2⟩, h3⟩
theorem Mean.on {w w' : World} {b n : Nat} {f : List UInt8 → Option (Int × Int)} (h : Mean w b n f) (hb : Below w.heap.size w w') : Mean w' b n f := h.block (hb.block b h.lt)
theorem Mean.alloc {w : World} {b n : Nat} {f : List UInt8 → Option (Int × Int)} (h : Mean w b n f) (o : Obj) : Mean (w.alloc o) b n f := h.on (below_new w o)
theorem Mean.eq {w : World} {b n : Nat} {f g : List UInt8 → Option (Int × Int)} (h : Mean w b n f) (e : f = g) : Mean w b n g := e ▸ h
theorem zero_mean (w : World) : (zeroValue 126).run Tryz.prog w = .ok (mnV (0, 0)) w := by kernel_rfl
section

variable {w : World} {ops : Array Oper} {rest : List Oper} {o : Oper} {a : Act} {Q : Exit → Act → World → Prop}

theorem wpList_mean_put (hg : o.guard = none) (m x v : Operand) (hop : o.op = Op.mapUpdate 72 m x v) (b n : Nat) (f : List UInt8 → Option (Int × Int)) (hm : a.eval m = .map (some b)) (hown : Mean w b n f) (hn : n < 1000000000) (y : List UInt8) (r : Int × Int)
    (hx : a.eval x = .string (txt y)) (hv : a.eval v = mnV r) (hy : y.length ≤ maxLen)
    (hK : ∀ w', Mean w' b (n + 1) (fun z => if z = y then some r else f z) → w.grownBy w' (some b) → wpList Tryz.prog ops Q rest (a.put o.dst undef) w') : wpList Tryz.prog ops Q (o :: rest) a w := by
  obtain ⟨D, h1, h2⟩ := hown
  refine wpList_mapUpdate_own w hg m x v _ hop 9 126 kS_law Tryz.underlying72 mnElem b n D hm h1 (by unfold maxLen; omega) _ _ (kS y) hx hv (kS_key hy) _ [] (mnElem_mk r) ?_
  intro w' r1 r2
  refine hK w' ⟨_, r1, fun z => ?_⟩ r2
  dsimp only
  by_cases hz : z = y
  · subst hz
    rw [has_put_same h1.isMap (kS_lit z), atKey_put_same h1.isMap (kS_lit z), if_pos rfl]
    exact ⟨rfl, fun q hq => by rw [Option.some.inj hq]⟩
  · rw [has_put_other (fun e => hz (kS_inj _ _ e)), atKey_put_other (fun e => hz (kS_inj _ _ e)), if_neg hz]
    exact h2 z
theorem wpList_mean_look (hg : o.guard = none) (m x : Operand) (hop : o.op = Op.lookup 72 m x true) (b n : Nat) (f : List UInt8 → Option (Int × Int)) (hm : a.eval m = .map (some b)) (hown : Mean w b n f) (y : List UInt8) (hx : a.eval x = .string (txt y)) (hy : y.length ≤ maxLen)
    (hK : wpList Tryz.prog ops Q rest (a.put o.dst (.tuple #[.agg #[.int .i64 ((f y).getD (0, 0)).1, .int .i64 ((f y).getD (0, 0)).2], .bool (f y).isSome])) w) : wpList Tryz.prog ops Q (o :: rest) a w := by
  obtain ⟨D, h1, h2⟩ := hown
  refine wpList_lookup_own_ok w hg m x _ hop 9 126 kS_law Tryz.underlying72 mnElem (zero_mean w) (mnD (0, 0)) [] (mnElem_mk (0, 0)) b n D hm h1 _ (kS y) hx (kS_key hy) ?_
  intro v ps hv
  obtain ⟨a1, a2⟩ := h2 y
  have e : v = mnV ((f y).getD (0, 0)) := by
    cases hf : f y with
    | none =>
      rw [hf] at a1
      rw [atKey_of_not_has a1] at hv
      exact mnElem_inv hv
    | some r =>
      rw [a2 r hf] at hv
      exact mnElem_inv hv
  rw [e, a1]
  exact hK
end

/-- What the first k plain types mean. -/
def plainM (k : Nat) (x : List UInt8) : Option (Int × Int) := ((plainsL.take k).find? fun q => q.1 == x).map fun q => ((q.2 : Int), 0)
theorem plainM_next {k : Nat} {q : List UInt8 × Nat} (h : plainsL[k]? = some q) : (fun z => if z = q.1 then some ((q.2 : Int), (0 : Int)) else plainM k z) = plainM (k + 1) := by
  funext z
  unfold plainM
  have hp : plainsL.Pairwise fun a b => a.1 ≠ b.1 := by decide
  cases hf : (plainsL.take k).find? fun q => q.1 == z with
  | none =>
    rw [find_take_next h hf]
    by_cases hz : z = q.1
    · subst hz; simp
    · rw [if_neg hz, if_neg (fun e => hz e.symm)]
  | some p =>
    have h1 := List.find?_some hf
    have h2 := List.mem_of_find?_eq_some hf
    have hz : z ≠ q.1 := by
      rintro rfl
      obtain ⟨i, hi, rfl⟩ := List.mem_iff_getElem.1 h2
      rw [List.length_take] at hi
      obtain ⟨hk, rfl⟩ := List.getElem?_eq_some_iff.1 h
      have := (List.pairwise_iff_getElem.1 hp) i k (by omega) hk (by omega)
      rw [List.getElem_take] at h1
      exact this (by simpa using h1)
    rw [if_neg hz, List.take_add_one, List.find?_append, hf]
    rfl
theorem plainM_all (f : Fl) : plainM 8 = meanK f 0 := by
  funext x
  rw [meanK_start, ← typeK_find]
  unfold plainM
  rw [show plainsL.take 8 = plainsL from rfl]
  cases plainsL.find? (fun q => q.1 == x) <;> rfl
theorem meanK_put {f : Fl} (hp : (namesF f).Pairwise (· ≠ ·)) {k : Nat} {y : List UInt8} (h : (namesF f)[k]? = some y) (ht : typeK y = none) (r : Int × Int) (hr : r = if k < f.M.length then (9, (k : Int)) else (6, ((k - f.M.length : Nat) : Int))) :
    (fun z => if z = y then some r else meanK f k z) = meanK f (k + 1) := by
  funext z
  rw [meanK_next hp h ht, hr]
  split
  · split <;> rfl
  · rfl
set_option maxRecDepth 1000000 in
set_option maxHeartbeats 8000000 in
theorem meanings_any (B : Nat) (f : Fl) (vM vE : Value) (w : World) (hB : B ≤ w.heap.size) (hf : FAt B w f vM vE) (hin : FlIn f) (hM : f.M.length ≤ 20) (hE : f.E.length ≤ 20) (hp : (namesF f).Pairwise (· ≠ ·)) (ht : ∀ x ∈ namesF f, typeK x = none) (T : Tabs w) :
    Calls Tryz.prog 33 #[.agg #[vM, vE]] w fun e w' => ∃ b n, e = .returned (.map (some b)) ∧ w.heap.size ≤ b ∧ Mean w' b n (kindF f) ∧ Below w.heap.size w w' := by
  obtain ⟨xs, ys, ⟨A1, q1, rfl, s1, b1⟩, h2, ⟨A2, q2, rfl, s2, b2⟩, h4⟩ := hf
  have HM := Lib.hid s1
  have HE := Lib.hid s2
  have HMA := Lib.hid h2
  have HEA := Lib.hid h4
  have HIN := Lib.hid hin
  have HP := Lib.hid hp
  have HTY := Lib.hid ht
  clear s1 s2 h2 h4 hin hp ht
  have hmm := @run_makeMap Tryz.prog
  have hb0 : Below w.heap.size w ((w.alloc (.cells #[.slice A1 f.M.length q1, .slice A2 f.E.length q2] 25)).alloc (.map #[] 0)) := below_lit (below_new _ _) _
  obtain ⟨tt, fr, hT⟩ := (T.on hb0).plains
  have hm0 := Mean.made (w.alloc (.cells #[.slice A1 f.M.length q1, .slice A2 f.E.length q2] 25))
  have hx0 : ((w.alloc (.cells #[.slice A1 f.M.length q1, .slice A2 f.E.length q2] 25)).alloc (.map #[] 0)).heap[w.heap.size]? = some (.cells #[.slice A1 f.M.length q1, .slice A2 f.E.length q2] 25 (0, 0)) := ((below_new _ _).block _ (by simp)).trans (heap_alloc_new w _)
  rw [show (w.alloc (.cells #[.slice A1 f.M.length q1, .slice A2 f.E.length q2] 25)).heap.size = w.heap.size + 1 by simp] at hm0
  go_enter Tryz.func33, Tryz.ntmps33
  go_wp2_with (refine wpList_load_row rfl 88 _ rfl 0 rfl tt _ fr _ hT Tryz.underlying88 rfl (by kernel_rfl) ?_)
  generalize (w.alloc (.cells #[.slice A1 f.M.length q1, .slice A2 f.E.length q2] 25)).alloc (.map #[] 0) = w1 at *
  have HX := Lib.hid hx0
  have HB0 := Lib.hid hb0
  clear hx0 hb0 hT T hmm
  go_loopw [12] (fun i wr => ∃ k : Nat, i = .int .i64 k ∧ k ≤ 8 ∧ Mean wr (w.heap.size + 1) k (plainM k) ∧ Below (w.heap.size + 1) w1 wr) (fun i _ => 8 - (intOf i).toNat)
  case atStart => exact ⟨0, rfl, by omega, hm0, Below.refl _ _⟩
  case round =>
    obtain ⟨k, rfl, hk, hm, hb⟩ := hrel
    by_cases hlt : k < 8
    · obtain ⟨q, hq⟩ : ∃ q, plainsL[k]? = some q := ⟨_, List.getElem?_eq_getElem hlt⟩
      have hi := index_plain wr hq
      have hql := plain_short hq
      have HN := Lib.hid (plainM_next hq)
      have hl := hm.lt
      clear hq
      go_wp2_with (at_mapUpdate; refine wpList_mean_put rfl _ _ _ rfl (w.heap.size + 1) _ _ rfl (hm.alloc _) (by omega) q.1 ((q.2 : Int), 0) rfl rfl hql ?_; intro w3 h3 hg3)
      exact ⟨⟨k + 1, by go_num, by omega, h3.eq HN.out, (hb.alloc (by omega) _).grown hg3 (by simp; omega) (fun j hj => by injection hj with hj; omega)⟩, by simp [intOf]; omega⟩
    · obtain rfl : k = 8 := by omega
      rw [plainM_all f] at hm
      have hl := hm.lt
      have hx6 : wr.heap[w.heap.size]? = some (.cells #[.slice A1 f.M.length q1, .slice A2 f.E.length q2] 25 (0, 0)) := (hb.block w.heap.size (by omega)).trans HX.out
      have e0 := heap_cell hx6 0
      simp at e0
      clear hx6
      go_wp2
      go_loopw [25] (fun i wy => ∃ k : Nat, i = .int .i64 k ∧ k ≤ f.M.length ∧ Mean wy (w.heap.size + 1) (8 + k) (meanK f k) ∧ Below (w.heap.size + 1) w1 wy) (fun i _ => f.M.length - (intOf i).toNat)
      case atStart => exact ⟨0, rfl, by omega, hm, hb⟩
      case round =>
        obtain ⟨k, rfl, hk, hm, hb⟩ := hrel
        have hl := hm.lt
        have hbw := HB0.out.trans (hb.mono (Nat.le_succ _))
        by_cases hlt : k < f.M.length
        · obtain ⟨m, hm0⟩ : ∃ m, f.M[k]? = some m := ⟨_, List.getElem?_eq_getElem hlt⟩
          obtain ⟨ad, vF, vO, vR, rfl, hg, hmr, c0, c1, c2, c3, c4⟩ := msr_at (HM.out.low b1 (Low.below hbw hB)) (HMA.out.low (Low.below hbw hB)) hm0
          obtain ⟨AF, cF, rfl, -, -⟩ := hmr.f
          obtain ⟨AO, cO, rfl, -, -⟩ := hmr.o
          obtain ⟨AR, cR, rfl, -, -⟩ := hmr.r
          obtain ⟨hx, -, -⟩ := hd_ms hm0
          have hmn := (HIN.out.M m (List.mem_of_getElem? hm0)).name
          have HN := Lib.hid (meanK_put HP.out hx (HTY.out _ (List.mem_of_getElem? hx)) (9, (k : Int)) (by rw [if_pos hlt]))
          clear hm0 hmr hx
          go_wp2_with (at_mapUpdate; refine wpList_mean_put rfl _ _ _ rfl (w.heap.size + 1) _ _ rfl (hm.alloc _) (by omega) m.name (9, (k : Int)) rfl rfl hmn ?_; intro w3 h3 hg3)
          exact ⟨⟨_, _, _, _, _, _, _, _, _, _, _, _, _, ⟨k + 1, rfl, by omega, by rw [show 8 + (k + 1) = 8 + k + 1 by omega]; exact h3.eq HN.out, (hb.alloc (by omega) _).grown hg3 (by simp; omega) (fun j hj => by injection hj with hj; omega)⟩, rfl⟩, by simp [intOf]; omega⟩
        · obtain rfl : k = f.M.length := by omega
          have hx6 := (hb.block w.heap.size (by omega)).trans HX.out
          have e0 := heap_cell hx6 1
          simp at e0
          clear hx6
          go_wp2
          go_loopw [39] (fun i wz => ∃ k : Nat, i = .int .i64 k ∧ k ≤ f.E.length ∧ Mean wz (w.heap.size + 1) (8 + f.M.length + k) (meanK f (f.M.length + k)) ∧ Below (w.heap.size + 1) w1 wz) (fun i _ => f.E.length - (intOf i).toNat)
          case atStart => exact ⟨0, rfl, by omega, hm, hb⟩
          case round =>
            obtain ⟨k, rfl, hk, hm, hb⟩ := hrel
            have hl := hm.lt
            have hbw := HB0.out.trans (hb.mono (Nat.le_succ _))
            by_cases hlt : k < f.E.length
            · obtain ⟨m, hm0⟩ : ∃ m, f.E[k]? = some m := ⟨_, List.getElem?_eq_getElem hlt⟩
              obtain ⟨ad, vV, rfl, hg, hmr, c0, c1, c2⟩ := enr_at (HE.out.low b2 (Low.below hbw hB)) (HEA.out.low (Low.below hbw hB)) hm0
              obtain ⟨AF, cF, rfl, -, -⟩ := hmr
              obtain ⟨hx, -, -⟩ := hd_en hm0
              have hmn := (HIN.out.E m (List.mem_of_getElem? hm0)).name
              have HN := Lib.hid (meanK_put HP.out hx (HTY.out _ (List.mem_of_getElem? hx)) (6, (k : Int)) (by rw [if_neg (by omega), show f.M.length + k - f.M.length = k by omega]))
              clear hm0 hx
              go_wp2_with (at_mapUpdate; refine wpList_mean_put rfl _ _ _ rfl (w.heap.size + 1) _ _ rfl (hm.alloc _) (by omega) m.name (6, (k : Int)) rfl rfl hmn ?_; intro w3 h3 hg3)
              exact ⟨⟨_, _, _, _, _, _, _, _, _, _, _, _, _, ⟨k + 1, rfl, by omega, by rw [show 8 + f.M.length + (k + 1) = 8 + f.M.length + k + 1 by omega]; exact h3.eq HN.out, (hb.alloc (by omega) _).grown hg3 (by simp; omega) (fun j hj => by injection hj with hj; omega)⟩, rfl⟩, by simp [intOf]; omega⟩
            · obtain rfl : k = f.E.length := by omega
              rw [← names_length, meanK_all] at hm
              go_wp2
              go_ret
              exact ⟨w.heap.size + 1, _, rfl, by omega, hm, hbw⟩
end Go.Proofs.YtciiemomfniecaaGreatDoor
