/-
  The chapter's example: the laws' own awake.
-/
import Derived.Test.YtjmcpfckcajnjaaTrGet
namespace Go.Proofs.Ytjmcpfckcajnjaa.T9
set_option maxRecDepth 100000

open Go.RowKit

def ex9 : So := ⟨3, [], [⟨1, [], []⟩, ⟨2, [], []⟩]⟩
theorem ex9_set : setM (.mk []) ex9 = .mk [ex9] := by
  unfold setM
  rw [if_neg (by simp [ex9])]
  rfl
theorem ex9_dS : dS ex9 = 0 := by decide
theorem ex9_zS : zS ex9 = 2 := by decide
theorem ex9_cS : cS ex9 = 3 := by decide
theorem ex9_deep : (Mg.mk [ex9]).deep = 1 := by
  rw [Mg.deep_eq]
  show 1 + mx [dS ex9] = 1
  rw [ex9_dS]
  rfl
theorem ex9_size : (Mg.mk [ex9]).size = 2 := by
  rw [Mg.size_eq]
  show sm [zS ex9] = 2
  rw [ex9_zS]
  rfl
theorem ex9_cnt : (Mg.mk [ex9]).cnt = 3 := by
  rw [Mg.cnt_eq]
  show sm [cS ex9] = 3
  rw [ex9_cS]
  rfl
theorem cnt_none : (Mg.mk []).cnt = 0 := by rw [Mg.cnt_eq]; rfl
theorem ex9_get : getM (.mk [ex9]) 3 = some ex9 := rfl
theorem none_at (B : Nat) (w : World) (D : Nat) : MRd B w (D + 1) (.mk []) (.slice none 0 0) := ⟨_, rfl, [], ⟨Rr.nil _ _ _, by decide⟩, rfl⟩
theorem ex9_at (w : World) (D : Nat) (e : Array Value) (he : e = #[.int .i64 1, .string ⟨#[]⟩, .slice none 0 0, .int .i64 2, .string ⟨#[]⟩, .slice none 0 0]) :
    SAt' (Rd (w.alloc (.cells e 30)).heap.size (w.alloc (.cells e 30))) D ex9 [.int .i64 3, .slice none 0 0, .slice (some ⟨w.heap.size, 0, none⟩) 2 2] := by
  subst he
  refine ⟨_, _, rfl, ⟨[], ⟨Rr.nil _ _ _, by decide⟩, rfl⟩, [.int .i64 1, .string ⟨#[]⟩, .slice none 0 0, .int .i64 2, .string ⟨#[]⟩, .slice none 0 0], ⟨⟨some ⟨w.heap.size, 0, none⟩, 2, rfl, ⟨rfl, by decide, by decide, by simp, fun ad ha _ => ?_, fun ad ha k u hu => ?_⟩, fun ad ha _ => ?_⟩, by decide⟩, ⟨[.int .i64 1, .string ⟨#[]⟩, .slice none 0 0], _, rfl, ⟨_, rfl, [], ⟨Rr.nil _ _ _, by decide⟩, rfl⟩, [.int .i64 2, .string ⟨#[]⟩, .slice none 0 0], [], rfl, ⟨_, rfl, [], ⟨Rr.nil _ _ _, by decide⟩, rfl⟩, rfl⟩⟩
  · obtain rfl := Option.some.inj ha
    simp
  · obtain rfl := Option.some.inj ha
    rw [Addr.add_lit, World.cell?_alloc_at _ _ _ _ rfl]
    simpa using hu
  · obtain rfl := Option.some.inj ha
    simp
set_option maxRecDepth 1000000 in
set_option maxHeartbeats 4000000 in
theorem awake9_any (w : World) : Calls Try.prog 5 #[] w fun e w' => e = .returned (.bool true) ∧ Below w.heap.size w w' := by
  have hb0 := below_new w (.cells #[.int .i64 1, .string ⟨#[]⟩, .slice none 0 0, .int .i64 2, .string ⟨#[]⟩, .slice none 0 0] 30)
  have HT := Lib.hid (set_any _ 0 (.mk []) ex9 _ _ _ _ (Nat.le_refl _) (none_at _ _ _) (ex9_at w 0 #[.int .i64 1, .string ⟨#[]⟩, .slice none 0 0, .int .i64 2, .string ⟨#[]⟩, .slice none 0 0] rfl) (by rw [cnt_none]; decide) (by rw [ex9_cS]; decide) w.heap.size hb0.size)
  rw [ex9_set] at HT
  go_enter Try.func5, Try.ntmps5
  go_wp2_with fail
  refine HT.out.mono ?_
  rintro e w1 ⟨q, rfl, ho, hb1⟩
  have hb01 := below_then hb0 hb1
  obtain ⟨q', hq, zs, ⟨hown, hzl⟩, hrz⟩ := id ho
  obtain ⟨A, c, hsl, -⟩ := Sl.of_own hown
  obtain rfl : q = q' := (by simpa using hq)
  subst hsl
  clear hown hrz hzl hq
  have hm1 : MRd w1.heap.size w1 1 (.mk [ex9]) (.slice A (Mg.mk [ex9]).F.length c) := MAt.imp (fun e size v n xs h => Rd.of_own e size v n xs h) 1 _ _ ho
  have hM : (Mg.mk [ex9]).F.length = 1 := rfl
  rw [hM] at hm1 ⊢
  clear ho hM
  have X1 := heap_alloc_new w1 (.cells #[.slice A 1 c] 24)
  have hb1b := below_new w1 (.cells #[.slice A 1 c] 24)
  have HG := Lib.hid (get_any w1.heap.size 0 (.mk [ex9]) _ 3 (w1.alloc (.cells #[.slice A 1 c] 24)) hb1b.size (MRd.low (Lo.below hb1b (Nat.le_refl _)) hm1) (by rw [ex9_cnt]; decide) w.heap.size (Nat.le_trans hb01.size hb1b.size))
  rw [ex9_get] at HG
  go_wp2_with fail
  refine HG.out.mono ?_
  rintro e w2 ⟨x1, x2, x3, rfl, ho2, hb2⟩
  have hh := ho2.head
  have hb02 := below_then (below_then hb01 hb1b) hb2
  obtain ⟨v1, v2, hv, hk, hvv⟩ := ho2
  simp only [List.cons.injEq, and_true] at hv
  obtain ⟨rfl, rfl, rfl⟩ := hv
  obtain ⟨q1, ⟨hq1, -⟩, -⟩ := hk
  obtain ⟨q2, ⟨hq2, -⟩, -⟩ := hvv
  obtain ⟨A1, c1', rfl, -⟩ := Sl.of_own hq1
  obtain ⟨A2, c2', rfl, -⟩ := Sl.of_own hq2
  have e1 : ((some ex9).getD so0).K.length = 0 := rfl
  have e2 : ((some ex9).getD so0).V.length = 2 := rfl
  have e3 : ((some ex9).getD so0).no = 3 := rfl
  have e4 : (some ex9).isSome = true := rfl
  rw [e1, e2, e3, e4]
  clear e1 e2 e3 e4 hq1 hq2 hh
  have X2 := box_on X1 hb2
  have hm2 : MRd w1.heap.size w2 1 (.mk [ex9]) (.slice A 1 c) := MRd.low (Lo.below (below_then hb1b hb2) (Nat.le_refl _)) hm1
  have hb3 := below_new w2 (.cells #[.int .i64 3, .slice A1 0 c1', .slice A2 2 c2'] 27)
  have X3 := heap_alloc_new w2 (.cells #[.int .i64 3, .slice A1 0 c1', .slice A2 2 c2'] 27)
  have X4 := box_on X2 hb3
  obtain ⟨y0, y1, y2⟩ := bx3 X3
  have z0 := bx1 X4
  go_wp2_with fail
  have LBD := (below_lit hb02 (.cells #[.int .i64 3, .slice A1 0 c1', .slice A2 2 c2'] 27)).trans (Below.refl _ _).drew
  have HD := Lib.hid (fun wx (hx : Below w2.heap.size w2 wx) => deep_any w1.heap.size 1 (.mk [ex9]) (.slice A 1 c) wx (Nat.le_trans hb1b.size (Nat.le_trans hb2.size hx.size)) (MRd.low (Lo.below hx (Nat.le_trans hb1b.size hb2.size)) hm2) (by rw [ex9_deep]; decide))
  have HZ := Lib.hid (fun wx (hx : Below w2.heap.size w2 wx) => size_any w1.heap.size 1 (.mk [ex9]) (.slice A 1 c) wx (Nat.le_trans hb1b.size (Nat.le_trans hb2.size hx.size)) (MRd.low (Lo.below hx (Nat.le_trans hb1b.size hb2.size)) hm2) (by rw [ex9_size]; decide))
  have HO := Lib.hid (fun wx (hx : Below w2.heap.size w2 wx) => own_any9 w1.heap.size 1 (.mk [ex9]) (.slice A 1 c) wx (Nat.le_trans hb1b.size (Nat.le_trans hb2.size hx.size)) (MRd.low (Lo.below hx (Nat.le_trans hb1b.size hb2.size)) hm2) (by rw [ex9_cnt]; decide) wx.heap.size (Nat.le_refl _))
  have HS := Lib.hid (fun u wx (hx : Below w2.heap.size w2 wx) (hu : MRd wx.heap.size wx 1 (.mk [ex9]) u) => same_any9 wx.heap.size 1 (.mk [ex9]) (.mk [ex9]) (.slice A 1 c) u wx (Nat.le_refl _) (MRd.mono (Nat.le_trans hb1b.size (Nat.le_trans hb2.size hx.size)) (MRd.low (Lo.below hx (Nat.le_trans hb1b.size hb2.size)) hm2)) hu)
  rw [ex9_deep] at HD
  rw [ex9_size] at HZ
  rw [eqB_yes rfl] at HS
  have L0 : Below w2.heap.size w2 (w2.alloc (.cells #[.int .i64 3, .slice A1 0 c1', .slice A2 2 c2'] 27)).drew := hb3.trans (Below.refl _ _).drew
  have hS : (w2.alloc (.cells #[.int .i64 3, .slice A1 0 c1', .slice A2 2 c2'] 27)).drew.cell? ⟨w1.heap.size, 0, none⟩ = some (.slice A 1 c) ∧ (w2.alloc (.cells #[.int .i64 3, .slice A1 0 c1', .slice A2 2 c2'] 27)).drew.cell? ⟨w2.heap.size, 2, none⟩ = some (.slice A2 2 c2') := ⟨z0, y2⟩
  clear hm1 hm2 X1 X2 X3 X4 y0 y1 y2 z0
  go_region_held3 (fun w' => w'.cell? ⟨w1.heap.size, 0, none⟩ = some (.slice A 1 c) ∧ w'.cell? ⟨w2.heap.size, 2, none⟩ = some (.slice A2 2 c2'))
    (first
      | exact hS
      | exact ⟨cell_on hbD hS.1, cell_on hbD hS.2⟩
      | exact ⟨cell_on hbZ (cell_on hbD hS.1), cell_on hbZ (cell_on hbD hS.2)⟩
      | exact ⟨cell_on hbO (cell_on hbZ (cell_on hbD hS.1)), cell_on hbO (cell_on hbZ (cell_on hbD hS.2))⟩
      | exact ⟨cell_on hbS (cell_on hbO (cell_on hbZ (cell_on hbD hS.1))), cell_on hbS (cell_on hbO (cell_on hbZ (cell_on hbD hS.2)))⟩
      | go_keep)
    ((first
      | (go_at_call 15; refine (HD.out _ L0).mono ?_; rintro e w3 ⟨rfl, hbD⟩)
      | (go_at_call 17; refine (HZ.out _ (below_then L0 hbD)).mono ?_; rintro e w4 ⟨rfl, hbZ⟩)
      | (go_at_call 14; refine (HO.out _ (below_then (below_then L0 hbD) hbZ)).mono ?_; rintro e w5 ⟨q5, rfl, ho5, hbO⟩)
      | (go_at_call 13; refine (HS.out _ _ (below_then (below_then (below_then L0 hbD) hbZ) hbO) (MAt.imp (fun e size v n xs h => Rd.of_own e size v n xs h) 1 _ _ ho5)).mono ?_; rintro e w6 ⟨rfl, hbS⟩)))
  all_goals
    go_wp2
    go_ret
    exact ⟨rfl, below_then (below_then (below_then (below_then LBD hbD) hbZ) hbO) hbS⟩
end Go.Proofs.Ytjmcpfckcajnjaa.T9
