/-
  All records from one place to another one, by the document's own function: its contract.
-/
import Derived.Test.YtpaggpcpflmpcaaDoorRecList
namespace Go.Proofs.YtpaggpcpflmpcaaDoor
open Go.RowKit

theorem infoRecs : (Tryd.prog.info? 25).map (fun i => (i.zero, i.size, i.bytes)) = some (some (.agg #[.int .i64 0, .int .i64 0, .int .u64 0, .int .i64 0, .int .i64 0]), 5, 40) := by kernel_rfl
/-- A literal of one record. -/
theorem lit_rec (w : World) (r : Rc) : Sl (w.alloc (.cells #[.int .i64 r.no, .int .i64 r.wire, .int .u64 r.num, .int .i64 r.frm, .int .i64 r.upto] 25)) (some ⟨w.heap.size, 0, none⟩) 1 1 5 (rs [r]) := by
  refine ⟨by simp [rs, RC], Nat.le_refl _, by unfold maxLen; omega, by simp, fun ad ha _ => ?_, fun ad ha k u hu => ?_⟩
  · obtain rfl := Option.some.inj ha
    simp
  · obtain rfl := Option.some.inj ha
    rw [Addr.add_lit, World.cell?_alloc_at _ _ _ _ rfl]
    simpa [rs, RC] using hu
theorem lit_rec2 (w : World) (o : Obj) (r : Rc) : Sl ((w.alloc o).alloc (.cells #[.int .i64 r.no, .int .i64 r.wire, .int .u64 r.num, .int .i64 r.frm, .int .i64 r.upto] 25)) (some ⟨w.heap.size + 1, 0, none⟩) 1 1 5 (rs [r]) := by
  have h := lit_rec (w.alloc o) r
  rwa [World.size_alloc] at h
def RallRel (w : World) (l : List UInt8) (a u : Nat) (X : List Rc × Nat) (i v : Value) (w' : World) : Prop :=
  ∃ (p : Nat) (pre : List Rc), i = .int .i64 p ∧ a ≤ p ∧ p ≤ u ∧ pre.length ≤ p ∧ w'.ownsRow w.heap.size 25 5 v pre.length (rs pre) ∧ X = (pre ++ (recs l u p).1, (recs l u p).2) ∧ Below w.heap.size w w'

set_option maxRecDepth 1000000 in
set_option maxHeartbeats 2000000 in
theorem rall_any (A : Option Addr) (c : Nat) (l : List UInt8) (a u : Int) (hl : l.length ≤ 1000000) (w : World) (h1 : SlB w A c l) :
    Calls Tryd.prog 13 #[.slice A l.length c, .int .i64 a, .int .i64 u] w fun e w' => ∃ A' c', e = .returned (.tuple #[.slice A' (allR l a u).1.length c', .int .i64 (allR l a u).2]) ∧ SlR w' A' c' (allR l a u).1 ∧ Below w.heap.size w w' := by
  obtain ⟨i0, hi, hz0, hz1, hz2⟩ := info_parts infoRecs
  by_cases hm : mayB a u l.length = true
  · have hR : allR l a u = recs l u.toNat a.toNat := by unfold allR; rw [if_pos hm]
    rw [hR]
    have h' := mayB_true.1 hm
    obtain ⟨an, rfl⟩ := Int.eq_ofNat_of_zero_le h'.1
    obtain ⟨un, rfl⟩ := Int.eq_ofNat_of_zero_le (show 0 ≤ u by omega)
    simp only [Int.toNat_natCast]
    generalize hX : recs l un an = X at *
    clear hR
    go_enter Tryd.func13, Tryd.ntmps13
    go_wp2_with fail
    refine (may_any _ _ _ _ _ _ (by omega)).mono ?_
    rintro e w' ⟨rfl, rfl⟩
    rw [hm]
    go_wp2
    go_loopw [1, 9] (fun i v wr => RallRel w l an un X i v wr) (fun i _ _ => un - (intOf i).toNat)
    case atStart => exact ⟨an, [], rfl, by omega, by omega, by simp, World.ownsRow_nil _ _ _ _, by rw [← hX]; simp, Below.refl _ _⟩
    case round =>
      obtain ⟨p, pre, rfl, hap, hpu, hpl, hown, hrel, hb⟩ := hrel
      have HR := Lib.hid hrel
      clear hrel
      by_cases hlt : p < un
      · obtain ⟨r, q, x, hn⟩ : ∃ r q x, nextR l p un = (r, q, x) := ⟨_, _, _, rfl⟩
        by_cases hx : x = 0
        · subst hx
          obtain ⟨-, hk1, hk2, hk3, -, -, -⟩ := next_ok hn
          have HS := Lib.hid (recs_step hlt hn)
          have HN := Lib.hid hn
          clear hn hX
          have E1 : Hid (pre.length + 1 = (pre ++ [r]).length) := Lib.hid (by simp)
          have E2 : Hid (rs pre ++ rs [r] = rs (pre ++ [r])) := Lib.hid (by rw [rs_append])
          go_wp2_with fail
          refine (rnext_any A c l p un (by omega) _ (h1.on hb)).mono ?_
          rw [HN.out]
          rintro e w2 ⟨rfl, hb2⟩
          unfold NV RV
          have hown2 := own_below hown hb2
          have hb2 := below_then hb hb2
          go_wp2_with (at_builtin; refine wpList_app_sl rfl _ _ 30 rfl w.heap.size 25 i0 _ 5 40 Tryd.underlying30 hi hz0 hz1 hz2 rfl (by omega) u9 pre.length (rs pre) rfl ((hown2.alloc _).alloc _) _ 1 1 (rs [r]) rfl (lit_rec2 _ _ r) (rs_one [r]) (by unfold maxLen; omega) (by omega) (by have := hb2.size; simp; omega) ?_; intro v3 w3 hown3 hg3; have hb3 : Below w.heap.size w w3 := (below_lit (below_lit hb2 _) _).grown hg3 (below_lit (below_lit hb2 _) _).size (own_ge hown2); rw [E1.out, E2.out] at hown3)
          exact ⟨⟨q, pre ++ [r], rfl, by omega, by omega, by simp; omega, hown3, by rw [HR.out, HS.out]; simp, hb3⟩, by simp [intOf]; omega⟩
        · have HS := Lib.hid (recs_stop hlt hn hx)
          have HN := Lib.hid hn
          have hx' : ((x : Int) != 0) = true := by simp; omega
          have HF := Lib.hid (show X = (pre, x) by rw [HR.out, HS.out]; simp)
          clear hn hx HS HR hX
          go_wp2_with fail
          refine (rnext_any A c l p un (by omega) _ (h1.on hb)).mono ?_
          rw [HN.out]
          rintro e w2 ⟨rfl, hb2⟩
          unfold NV RV
          have hown2 := own_below hown hb2
          have hb2 := below_then hb hb2
          obtain ⟨A4, c4, rfl, hr4⟩ := SlR.of_own hown2
          go_wp2
          go_ret2
          exact ⟨A4, c4, by rw [HF.out]; rfl, by rw [HF.out]; exact hr4.on (below_new _ _), below_lit hb2 _⟩
      · obtain rfl : p = un := by omega
        have hfin : X = (pre, 0) := by rw [HR.out, recs_end (by omega)]; simp
        obtain ⟨A4, c4, rfl, hr4⟩ := SlR.of_own hown
        clear HR
        have HF := Lib.hid hfin
        clear hfin
        go_wp2
        go_ret2
        exact ⟨A4, c4, by rw [HF.out]; rfl, by rw [HF.out]; exact hr4, hb⟩
  · have hm : mayB a u l.length = false := by simpa using hm
    have hR : allR l a u = ([], 1) := by unfold allR; rw [hm]; rfl
    rw [hR]
    go_enter Tryd.func13, Tryd.ntmps13
    go_wp2_with fail
    refine (may_any _ _ _ _ _ _ (by omega)).mono ?_
    rintro e w' ⟨rfl, rfl⟩
    rw [hm]
    go_wp2
    go_ret2
    exact ⟨none, 0, rfl, SlR.nil _, Below.refl _ _⟩
end Go.Proofs.YtpaggpcpflmpcaaDoor
