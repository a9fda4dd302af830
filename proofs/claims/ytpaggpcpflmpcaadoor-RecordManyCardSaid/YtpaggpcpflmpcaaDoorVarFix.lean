/-
  The contracts of the functions that put a number into four or eight bytes, and get it.
-/
import Derived.Test.YtpaggpcpflmpcaaDoorVarPut
import Derived.Test.YtpaggpcpflmpcaaDoorVarMay
namespace Go.Proofs.YtpaggpcpflmpcaaDoor
open Go.RowKit

theorem isSize_any (s : Int) (w : World) :
    Calls Tryd.prog 40 #[.int .i64 s] w fun e w' => e = .returned (.bool (sizeB s)) ∧ w = w' := by
  by_cases h4 : s = 4
  · have h : ((s : Int) == 4) = true := by simp [h4]
    have HF : Hid (sizeB s = true) := Lib.hid (by simp [sizeB, h4])
    clear h4
    go_enter Tryd.func40, Tryd.ntmps40
    go_wp2
    go_ret
    exact ⟨by rw [HF.out]; rfl, rfl⟩
  · have h : ((s : Int) == 4) = false := by simp [h4]
    by_cases h8 : s = 8
    · have h' : ((s : Int) == 8) = true := by simp [h8]
      have HF : Hid (sizeB s = true) := Lib.hid (by simp [sizeB, h8])
      clear h4 h8
      go_enter Tryd.func40, Tryd.ntmps40
      go_wp2
      go_ret
      exact ⟨by rw [HF.out]; rfl, rfl⟩
    · have h' : ((s : Int) == 8) = false := by simp [h8]
      have HF : Hid (sizeB s = false) := Lib.hid (by simp [sizeB, h4, h8])
      clear h4 h8
      go_enter Tryd.func40, Tryd.ntmps40
      go_wp2
      go_ret
      exact ⟨by rw [HF.out]; rfl, rfl⟩

def FixRel (w : World) (n S : Nat) (i : Value) (w' : World) : Prop :=
  ∃ k : Nat, i = .int .i64 k ∧ k ≤ S ∧ w'.ownsRow w.heap.size 5 1 (.slice (some ⟨w.heap.size, 0, none⟩) S S) S (bs (fixb n k ++ List.replicate (S - k) 0)) ∧ Below w.heap.size w w'

set_option maxRecDepth 1000000 in
theorem fix_yes (n S : Nat) (hS : S = 4 ∨ S = 8) (hn : n < 18446744073709551616) (w : World) :
    Calls Tryd.prog 37 #[.int .u64 n, .int .i64 S] w fun e w' => ∃ v, e = .returned (.tuple #[v, .bool true]) ∧ w'.ownsRow w.heap.size 5 1 v S (bs (fixb n S)) ∧ Below w.heap.size w w' := by
  obtain ⟨i0, hi, hz0, hz1, hz2⟩ := info_parts info_u8
  have hsz : sizeB S = true := by rcases hS with rfl | rfl <;> rfl
  have hS8 : S ≤ 8 := by omega
  go_enter Tryd.func37, Tryd.ntmps37
  go_wp2_with (first
    | (go_at_call 40; refine (isSize_any _ _).mono ?_; rintro e w' ⟨rfl, rfl⟩)
    | (at_make; refine wpList_make_full _ rfl _ _ 22 rfl w.heap.size 5 i0 (.int .u8 0) 1 Tryd.underlying22 hi hz0 hz1 .i64 .i64 _ _ S rfl rfl rfl rfl (by rw [hz2]; omega) (by unfold maxLen; omega) (Nat.le_refl _) ?_; intro w0 hown0 hgrow0))
  go_loopw [14] (fun i wr => FixRel w n S i wr) (fun i _ => S - (intOf i).toNat)
  case atStart =>
    refine ⟨0, rfl, by omega, ?_, (Below.refl _ _).grown hgrow0 (Nat.le_refl _) (by simp)⟩
    have e : (madeCells (Value.int IntKind.u8 0).cells (S * 1)).toList = bs (fixb n 0 ++ List.replicate (S - 0) 0) := by
      rw [show (Value.int IntKind.u8 0).cells = #[Value.int IntKind.u8 0] from rfl, toList_madeCells_one]
      simp [bs, fixb, BV]
    rw [← e]; exact hown0
  case round =>
    obtain ⟨k, rfl, hk, hown, hb⟩ := hrel
    by_cases hlt : k < S
    · have hcell : wr.cell? ⟨w.heap.size, k, none⟩ = some (BV 0) := by
        rw [hown.cellAt k (by omega), bs_get, List.getElem?_append_right (by rw [fixb_length]; omega), fixb_length]
        simp [show 0 < S - k by omega]
      have hfz := hown.frozenAt k
      have hst := hown.stored k (.int .u8 ((n : Int) / 2 ^ (8 * k) % 256))
      have he : (bs (fixb n k ++ List.replicate (S - k) 0)).set k (.int .u8 ((n : Int) / 2 ^ (8 * k) % 256)) = bs (fixb n (k + 1) ++ List.replicate (S - (k + 1)) 0) := by
        rw [fixb_snoc, show S - k = (S - (k + 1)) + 1 by omega, List.replicate_succ]
        have h256 : (256 : Nat) ^ k = 2 ^ (8 * k) := by rw [Nat.pow_mul]
        simp only [bs, List.map_append, List.map_cons, List.append_assoc]
        rw [List.set_append_right _ _ (by simp [fixb_length])]
        simp only [List.length_map, fixb_length, Nat.sub_self, List.set_cons_zero, List.map_nil, List.cons_append, List.nil_append]
        congr 2
        unfold BV
        rw [ofNat_toNat (by omega), h256]
        congr 1
      have HE := Lib.hid he
      have HST := Lib.hid hst
      clear he hst hown0 hown
      go_wp2
      exact ⟨⟨k + 1, by go_num, by omega, by rw [← HE.out]; exact HST.out.1, hb.setCell (by simp) _⟩, by simp [intOf]; omega⟩
    · obtain rfl : k = S := by omega
      clear hown0
      go_wp2
      go_ret2
      refine ⟨_, rfl, ?_, hb⟩
      simpa using hown

theorem fix_no (n s : Int) (hS : sizeB s = false) (w : World) :
    Calls Tryd.prog 37 #[.int .u64 n, .int .i64 s] w fun e w' => e = .returned (.tuple #[.slice none 0 0, .bool false]) ∧ w = w' := by
  go_enter Tryd.func37, Tryd.ntmps37
  go_wp2_with (go_at_call 40; refine (isSize_any _ _).mono ?_; rintro e w' ⟨rfl, rfl⟩)
  go_ret2
  exact ⟨rfl, rfl⟩

def RFixRel (w : World) (n S : Nat) (m i v : Value) (w' : World) : Prop :=
  ∃ (k q : Nat) (xs : List UInt8), i = .int .i64 k ∧ m = .int .u64 q ∧ q < 18446744073709551616 ∧ k ≤ S ∧ w'.ownsRow w.heap.size 5 1 v k (bs xs) ∧ xs.length = k ∧ xs ++ fixb q (S - k) = fixb n S ∧ Below w.heap.size w w'

set_option maxRecDepth 1000000 in
theorem rfix_yes (n S : Nat) (hS : S = 4 ∨ S = 8) (hn : n < 18446744073709551616) (w : World) :
    Calls Tryd.prog 30 #[.int .u64 n, .int .i64 S] w fun e w' => ∃ v, e = .returned (.tuple #[v, .bool true]) ∧ w'.ownsRow w.heap.size 5 1 v S (bs (fixb n S)) ∧ Below w.heap.size w w' := by
  obtain ⟨i0, hi, hz0, hz1, hz2⟩ := info_parts info_u8
  have hS8 : S ≤ 8 := by omega
  have h48 : ((S : Int) != 4) = true ∧ ((S : Int) != 8) = false ∨ ((S : Int) != 4) = false := by
    rcases hS with rfl | rfl
    · exact Or.inr rfl
    · exact Or.inl ⟨rfl, rfl⟩
  rcases h48 with ⟨h4, h8⟩ | h4
  all_goals
    go_enter Tryd.func30, Tryd.ntmps30
    go_wp2
    go_loopw [0, 6, 7] (fun m v i wr => RFixRel w n S m i v wr) (fun _ _ i _ => S - (intOf i).toNat)
    case atStart => exact ⟨0, n, [], rfl, rfl, hn, by omega, World.ownsRow_nil _ _ _ _, rfl, rfl, Below.refl _ _⟩
    case round =>
      obtain ⟨k, q, xs, rfl, rfl, hq, hk, hown, hxl, hx, hb⟩ := hrel
      have HX := Lib.hid hx
      have HL := Lib.hid hxl
      have hz := hb.size
      clear hx hxl
      by_cases hlt : k < S
      · go_wp2_with (at_builtin; refine wpList_app1 rfl _ _ 22 rfl w.heap.size 5 i0 (.int .u8 0) 1 Tryd.underlying22 hi hz0 hz1 hz2 rfl _ k (bs xs) rfl (hown.alloc _) wr.heap.size 1 _ rfl (World.cell?_alloc_at _ _ _ _ rfl) rfl (by unfold maxLen; omega) (by omega) (by simp; omega) ?_; intro v2 w2 hown2 hg2)
        have he : bs xs ++ [#[Value.int IntKind.u8 ((q : Int) % 256)][0]] = bs (xs ++ [UInt8.ofNat (q % 256)]) := by simp [bs, BV]
        rw [he] at hown2
        refine ⟨⟨k + 1, q / 256, xs ++ [UInt8.ofNat (q % 256)], by go_num, rfl, by omega, by omega, hown2, by rw [List.length_append, HL.out]; rfl, ?_, (hb.alloc hz _).grown hg2 (by simp; omega) (own_ge hown)⟩, by simp [intOf]; omega⟩
        rw [← HX.out, show S - k = (S - (k + 1)) + 1 by omega, fixb, List.append_assoc]
        rfl
      · obtain rfl : k = S := by omega
        have hx := HX.out
        rw [Nat.sub_self, fixb, List.append_nil] at hx
        have HX2 := Lib.hid hx
        clear hx
        go_wp2
        go_ret2
        refine ⟨_, rfl, ?_, hb⟩
        rw [← HX2.out]
        exact hown

theorem rfix_no (n s : Int) (hS : sizeB s = false) (w : World) :
    Calls Tryd.prog 30 #[.int .u64 n, .int .i64 s] w fun e w' => e = .returned (.tuple #[.slice none 0 0, .bool false]) ∧ w = w' := by
  have hs : ¬ (s = 4 ∨ s = 8) := by simpa [sizeB] using hS
  have h4 : (s != 4) = true := by rw [bne_iff_ne]; omega
  have h8 : (s != 8) = true := by rw [bne_iff_ne]; omega
  clear hs
  go_enter Tryd.func30, Tryd.ntmps30
  go_wp2
  go_ret2
  exact ⟨rfl, rfl⟩
end Go.Proofs.YtpaggpcpflmpcaaDoor
