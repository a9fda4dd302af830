/-
  The document's own: a slot's values, those of K first.
-/
import Derived.Test.YtjmcpfckcajnjaaTrAwake
namespace Go.Proofs.Ytjmcpfckcajnjaa.T9
set_option maxRecDepth 100000

open Go.RowKit

theorem below_app {w w' : World} {B : Nat} {e : TypeId} {size : Nat} {v : Value} {n : Nat} {xs : List Value} (h : w.ownsRow B e size v n xs) (hg : w.grownBy w' v.ownBlock) (hs : B ≤ w.heap.size) : Below B w w' := below_rows h hg hs
theorem none_sl (w : World) (size : Nat) : Sl w none 0 0 size [] := Sl.nothing w size
set_option maxRecDepth 1000000 in
set_option maxHeartbeats 4000000 in
theorem both_any (B d : Nat) (s : So) (u1 u2 : Value) (w : World) (hB : B ≤ w.heap.size) (hs : SAt' (Rd B w) d s [.int .i64 s.no, u1, u2]) (hk : s.K.length ≤ 1000000000) (hv : s.V.length ≤ 1000000000) :
    Calls Try.prog 36 #[.agg #[.int .i64 s.no, u1, u2]] w fun e w' => ∃ v xs, e = .returned v ∧ w'.ownsRow w.heap.size 30 3 v (s.K ++ s.V).length xs ∧ Rows (VAt (Rd B w') d) (s.K ++ s.V) xs ∧ Below w.heap.size w w' := by
  obtain ⟨i0, hi, hz0, hz1, hz2⟩ := info_parts info_val
  obtain ⟨u1', u2', hu, hlk, hlv⟩ := hs
  simp only [List.cons.injEq, and_true, true_and] at hu
  obtain ⟨rfl, rfl⟩ := hu
  obtain ⟨A1, c1, xs1, rfl, hs1, hb1, hr1, -⟩ := hlk.open_
  obtain ⟨A2, c2, xs2, rfl, hs2, hb2, hr2, -⟩ := hlv.open_
  have hbw := below_new w (.cells #[.int .i64 s.no, .slice A1 s.K.length c1, .slice A2 s.V.length c2] 27)
  have X1 := heap_alloc_new w (.cells #[.int .i64 s.no, .slice A1 s.K.length c1, .slice A2 s.V.length c2] 27)
  have hlt := box_lt X1
  have hs1' := sl_low hs1 hb1 (Lo.below hbw hB)
  have h11 := Rows.one vAt.one hr1
  have h12 := Rows.one vAt.one hr2
  have HR1 := Lib.hid hr1
  have HR2 := Lib.hid hr2
  have HS2 := Lib.hid hs2
  clear hr1 hr2 hs1 hs2 hlk hlv
  obtain ⟨p0, p1, p2⟩ := bx3 X1
  go_enter Try.func36, Try.ntmps36
  go_wp2_with (at_builtin; first
    | (refine wpList_app_sl rfl _ _ 25 rfl w.heap.size 30 i0 (.agg #[.int .i64 0, .string ⟨#[]⟩, .slice none 0 0]) 3 48 Try.underlying25 hi hz0 hz1 hz2 rfl (by omega) (.slice none 0 0) 0 [] rfl (World.ownsRow_nil _ _ _ _) A1 s.K.length c1 xs1 rfl hs1' h11 (by unfold maxLen; omega) (by omega) hbw.size ?_; intro v2 w2 hown2 hg2
       have Y1 := (hg2.block w.heap.size hlt (by simp [Value.ownBlock])).trans X1
       have q2 := (bx3 Y1).2.2
       have hb02 := hbw.trans (below_own (g := w2.heap.size + w.heap.size) ⟨hg2.os, hg2.tape, hg2.output, hg2.size, fun k hk _ => hg2.block k hk (by simp [Value.ownBlock])⟩ (by omega) hbw.size)
       have hs2' := sl_low HS2.out hb2 (Lo.below hb02 hB)
       rw [Nat.zero_add] at hown2)
    | (refine wpList_app_sl rfl _ _ 25 rfl w.heap.size 30 i0 (.agg #[.int .i64 0, .string ⟨#[]⟩, .slice none 0 0]) 3 48 Try.underlying25 hi hz0 hz1 hz2 rfl (by omega) _ s.K.length _ rfl hown2 A2 s.V.length c2 xs2 rfl hs2' h12 (by unfold maxLen; omega) (by omega) hb02.size ?_; intro v3 w3 hown3 hg3))
  go_ret
  have hb03 := hb02.trans (below_app hown2 hg3 hb02.size)
  refine ⟨_, _, rfl, by rw [List.length_append]; exact hown3, ?_, hb03⟩
  exact ((HR1.out.imp fun a cs h => VRd.low (Lo.below hb03 hB) h).append (HR2.out.imp fun a cs h => VRd.low (Lo.below hb03 hB) h))
end Go.Proofs.Ytjmcpfckcajnjaa.T9
