/-
  The statements' first call tells yes; and what is not too great.
-/
import Derived.Test.YtipaangiehdgkaaGreatDoorEncTop
import Derived.Test.YtipaangiehdgkaaGreatDoorProText
import Derived.Test.YtipaangiehdgkaaGreatDoorEncNor
import Derived.Test.YtipaangiehdgkaaGreatDoorEncWri
import Derived.Test.YtipaangiehdgkaaGreatDoorTrFew
namespace Go.Proofs.YtipaangiehdgkaaGreatDoor.T12
set_option maxRecDepth 100000

open Go.RowKit Go.Maps

open Go.Proofs.YtipaangiehdgkaaGreatDoor.T9 Go.Proofs.YtipaangiehdgkaaGreatDoor.T4

/-! ### The chapter's example -/

def f0 : Df := ⟨1, [97], 0, 0, false, -1, 0⟩
def s0 : Sc := ⟨[⟨[65], [f0]⟩], []⟩
def v0 : Vl' := ⟨7, [], []⟩
def t0 : So := ⟨1, [], [v0]⟩
def x0 : Mg := .mk [t0]
theorem may_s0 : ScMay s0 := by
  refine ⟨by decide, by decide, by decide, by decide, by decide, fun m hm => ?_, fun e he => by cases he⟩
  obtain rfl : m = ⟨[65], [f0]⟩ := by simpa [s0] using hm
  refine ⟨by decide, by simp, by simp, fun d hd => ?_⟩
  obtain rfl : d = f0 := by simpa using hd
  exact ⟨by decide, by decide, by decide, by decide, by decide, by decide, by decide, .inl rfl, .inl rfl⟩
theorem may_x0 : mayT s0 0 x0 = true := by
  unfold mayT
  rw [Bool.and_eq_true]
  exact ⟨@decide_eq_true _ (Classical.propDecidable _) may_s0, by decide +kernel⟩
theorem in_s0 : ScIn s0 := by
  refine ⟨fun m hm => ?_, fun e he => by cases he⟩
  obtain rfl : m = ⟨[65], [f0]⟩ := by simpa [s0] using hm
  refine ⟨by unfold maxLen; decide, fun d hd => ?_⟩
  obtain rfl : d = f0 := by simpa using hd
  exact ⟨by unfold inr; decide, by unfold maxLen; decide, by unfold inr; decide, by unfold inr; decide, by unfold inr; decide, by unfold inr; decide⟩
theorem in_x0 : MIn x0 := .of fun s hs => by
  obtain rfl : s = t0 := by simpa [x0, Mg.F] using hs
  refine ⟨by unfold inI; decide, fun v hv => ?_⟩
  obtain rfl : v = v0 := by simpa [t0] using hv
  exact ⟨⟨by unfold inI; decide, by decide⟩, fun x hx => by cases hx⟩
theorem sat0 {w : World} {g0 g1 B : Nat} {t0 t1 : TypeId} {fr0 fr1 : Nat × Nat} (h0 : w.heap[g0]? = some (.cells #[.int .i64 1, .string ⟨#[97]⟩, .int .i64 0, .int .i64 0, .bool false, .int .i64 (-1), .int .i64 0] t0 fr0)) (h1 : w.heap[g1]? = some (.cells #[.string ⟨#[65]⟩, .slice (some ⟨g0, 0, none⟩) 1 1] t1 fr1)) (b0 : g0 < B) (b1 : g1 < B) :
    SAt B w s0 (.slice (some ⟨g1, 0, none⟩) 1 1) (.slice none 0 0) :=
  ⟨_, [], (lit_row (n := 1) (size := 2) (xs := [.string ⟨#[65]⟩, .slice (some ⟨g0, 0, none⟩) 1 1]) h1 rfl (by decide) b1 66).1, ⟨.slice (some ⟨g0, 0, none⟩) 1 1, [], rfl, (lit_row (n := 1) (size := 7) (xs := [.int .i64 1, .string ⟨#[97]⟩, .int .i64 0, .int .i64 0, .bool false, .int .i64 (-1), .int .i64 0]) h0 rfl (by decide) b0 53).1, rfl⟩, Rr.nil _ _ _, rfl⟩
theorem rd0 {w : World} {g3 g4 : Nat} {t3 t4 : TypeId} {fr3 fr4 : Nat × Nat} (h3 : w.heap[g3]? = some (.cells #[.int .i64 7, .string ⟨#[]⟩, .slice none 0 0] t3 fr3)) (h4 : w.heap[g4]? = some (.cells #[.int .i64 1, .slice none 0 0, .slice (some ⟨g3, 0, none⟩) 1 1] t4 fr4)) :
    MRd w.heap.size w 2 x0 (.slice (some ⟨g4, 0, none⟩) 1 1) :=
  one_rd (D := 1) (s := t0) ⟨.slice none 0 0, .slice (some ⟨g3, 0, none⟩) 1 1, rfl, ⟨[], ⟨Rr.nil _ _ _, Nat.zero_le _⟩, rfl⟩, ⟨_, lit_row (n := 1) (size := 3) (xs := [.int .i64 7, .string ⟨#[]⟩, .slice none 0 0]) h3 rfl (by decide) (box_lt h3) _, T9.Rows.single ⟨_, rfl, [], ⟨Rr.nil _ _ _, Nat.zero_le _⟩, rfl⟩⟩⟩ h4

theorem nor_x0 : norB s0 64 0 x0 = x0 := by kernel_rfl
theorem enc_x0 : encB s0 64 0 x0 = [8, 7] := by
  have h1 : encB s0 64 0 x0 = (encN 0 1 7 ++ []) ++ [] := by kernel_rfl
  have h2 : ∀ n, n < 128 → vput n = [UInt8.ofNat n] := fun n h => by unfold vput; rw [if_pos h]
  rw [h1]
  have h3 : encN 0 1 7 = putL 1 0 ++ restL 0 7 [] := recL_yes (by decide)
  have h4 : putL 1 0 = [8] := by rw [putL_yes (by decide)]; exact h2 _ (by decide)
  have h5 : restL 0 7 [] = [7] := by unfold restL; exact h2 7 (by decide)
  rw [h3, h4, h5]; rfl
theorem five_new (w : World) (o1 o2 o3 o4 o5 : Obj) : let W := ((((w.alloc o1).alloc o2).alloc o3).alloc o4).alloc o5
    W.heap[w.heap.size]? = some o1 ∧ W.heap[w.heap.size + 1]? = some o2 ∧ W.heap[w.heap.size + 1 + 1]? = some o3 ∧ W.heap[w.heap.size + 1 + 1 + 1]? = some o4 ∧ W.heap[w.heap.size + 1 + 1 + 1 + 1]? = some o5 ∧ Below w.heap.size w W := by
  intro W
  obtain ⟨a1, a2, a3, a4, L4⟩ := four_new w o1 o2 o3 o4
  have N5 := below_new ((((w.alloc o1).alloc o2).alloc o3).alloc o4) o5
  have e5 : ((((w.alloc o1).alloc o2).alloc o3).alloc o4).heap.size = w.heap.size + 1 + 1 + 1 + 1 := by simp
  exact ⟨box_on a1 N5, box_on a2 N5, box_on a3 N5, box_on a4 N5, e5 ▸ heap_alloc_new _ o5, below_then L4 N5⟩
set_option maxRecDepth 1000000 in
set_option maxHeartbeats 4000000 in
theorem awake12_any (w : World) (T : Tabs w) (TW : Wires w) : Calls Tryz.prog 10 #[] w fun e w' => e = .returned (.bool true) ∧ Below w.heap.size w w' := by
  obtain ⟨h1, h2, h3, h4, h5, L5⟩ := five_new w (.cells #[.int .i64 1, .string ⟨#[97]⟩, .int .i64 0, .int .i64 0, .bool false, .int .i64 (-1), .int .i64 0] 53) (.cells #[.string ⟨#[65]⟩, .slice (some ⟨w.heap.size, 0, none⟩) 1 1] 66) (.cells #[.slice (some ⟨w.heap.size + 1, 0, none⟩) 1 1, .slice none 0 0] 33) (.cells #[.int .i64 7, .string ⟨#[]⟩, .slice none 0 0] 51) (.cells #[.int .i64 1, .slice none 0 0, .slice (some ⟨w.heap.size + 1 + 1 + 1, 0, none⟩) 1 1] 48)
  have hT := T.on L5
  have hTW := TW.on L5
  clear T TW
  go_enter Tryz.func10, Tryz.ntmps10
  go_wp2_with fail
  generalize ((((w.alloc (.cells #[.int .i64 1, .string ⟨#[97]⟩, .int .i64 0, .int .i64 0, .bool false, .int .i64 (-1), .int .i64 0] 53)).alloc (.cells #[.string ⟨#[65]⟩, .slice (some ⟨w.heap.size, 0, none⟩) 1 1] 66)).alloc (.cells #[.slice (some ⟨w.heap.size + 1, 0, none⟩) 1 1, .slice none 0 0] 33)).alloc (.cells #[.int .i64 7, .string ⟨#[]⟩, .slice none 0 0] 51)).alloc (.cells #[.int .i64 1, .slice none 0 0, .slice (some ⟨w.heap.size + 1 + 1 + 1, 0, none⟩) 1 1] 48) = W at *
  have HE := Lib.hid (encode_yes in_s0 W.heap.size 2 _ _ 0 x0 _ W (Nat.le_refl _) (sat0 (B := W.heap.size) h1 h2 (box_lt h1) (box_lt h2)) (rd0 h4 h5) in_x0 (by decide +kernel) (by decide +kernel) hT hTW may_x0)
  rw [nor_x0, enc_x0] at HE
  clear h1 h2 h3 h4 h5 hT hTW
  refine HE.out.mono ?_
  rintro e w1 ⟨v, rfl, ⟨A, c, rfl, hr, -⟩, hb1⟩
  have HB := Lib.hid (fun wx (h : Below w1.heap.size w1 wx) A' c' (h2 : SlB wx A' c' [8, 7]) => bytes_any A A' c c' [8, 7] [8, 7] wx (by decide) (by decide) (hr.on h) h2)
  have N1 := below_new w1 (.cells #[.int .u8 8, .int .u8 7] 5)
  have HB2 := Lib.hid (HB.out _ N1 (some ⟨w1.heap.size, 0, none⟩) 2 (lit_reads w1 [8, 7] (by decide)))
  clear hr
  go_wp2_with fail
  refine HB2.out.mono ?_
  rintro e w2 ⟨rfl, hb2⟩
  go_wp2
  go_ret
  exact ⟨by simp, L5.trans ((below_then (below_then hb1 N1) hb2).mono L5.size)⟩
/-- What is not too great. -/
theorem few12_any (B D : Nat) (s : Sc) (vM vE : Value) (x : Mg) (u : Value) (w : World) (hB : B ≤ w.heap.size) (hs : SAt B w s vM vE) (hx : MRd B w D x u) (hi : MIn x) :
    Calls Tryz.prog 11 #[.agg #[vM, vE], .agg #[u]] w fun e w' => ∃ r : Bool, e = .returned (.bool r) ∧ (r = true → Fit 3000 80 x ∧ Mg.txt x ≤ 3000) ∧ Below w.heap.size w w' := by
  obtain ⟨X1, X2, LBD⟩ := two_boxes w (.cells #[vM, vE] 33) (.cells #[u] 36)
  have HF := Lib.hid (fews_any B s vM vE _ (Nat.le_trans hB LBD.size) (SAt.lo hs LBD hB))
  have HO := Lib.hid (fun wx (h : Below w.heap.size w wx) => few_one B D x u 80 wx (Nat.le_trans hB h.size) (MRd.low (Lo.below h hB) hx) (by omega))
  have HX := Lib.hid (fun wx (h : Below w.heap.size w wx) (hf : Fit 3000 80 x) => txt_any B D x u wx (Nat.le_trans hB h.size) (MRd.low (Lo.below h hB) hx) (by have := hf.1; omega) (by have h1 := txt_le x hi; have h2 := hf.1; omega))
  obtain ⟨A1, q1, A2, q2, rfl, rfl⟩ := sat_shape hs
  obtain ⟨A, c, rfl⟩ := rd_shape hx
  obtain ⟨x1, x2⟩ := box2' X1
  obtain ⟨d, hd⟩ : ∃ d, fewS s = d := ⟨_, rfl⟩
  rw [hd] at HF
  clear hs hx hd
  cases d with
  | false =>
    go_enter Tryz.func11, Tryz.ntmps11
    go_wp2_with fail
    refine HF.out.mono ?_
    rintro e w1 ⟨rfl, hb1⟩
    go_wp2
    go_ret
    exact ⟨false, rfl, (fun h => (by cases h)), below_then LBD hb1⟩
  | true =>
    go_enter Tryz.func11, Tryz.ntmps11
    go_wp2_with fail
    refine HF.out.mono ?_
    rintro e w1 ⟨rfl, hb1⟩
    have z3 := bx1 (box_on X2 hb1)
    have HO2 := Lib.hid (HO.out _ (below_then LBD hb1))
    go_wp2_with fail
    refine HO2.out.mono ?_
    rintro e w2 ⟨r, rfl, hr, hb2⟩
    have HRR := Lib.hid hr
    clear hr
    cases r with
    | false =>
      go_wp2
      go_ret
      exact ⟨false, rfl, (fun h => (by cases h)), below_then (below_then LBD hb1) hb2⟩
    | true =>
      have z4 := bx1 (box_on (box_on X2 hb1) hb2)
      have hfit := HRR.out rfl
      have HX2 := Lib.hid (HX.out _ (below_then (below_then LBD hb1) hb2) hfit)
      have HFI := Lib.hid hfit
      obtain ⟨n, hn⟩ : ∃ n, Mg.txt x = n := ⟨_, rfl⟩
      have HNN := Lib.hid hn
      rw [hn] at HX2
      clear hfit hn z3
      go_wp2_with fail
      refine HX2.out.mono ?_
      rintro e w3 ⟨rfl, hb3⟩
      by_cases hle : n ≤ 3000
      · have b1 : ((n : Int) ≤ 3000) := by omega
        go_wp2
        go_ret
        exact ⟨true, by simp [b1], fun _ => ⟨HFI.out, by rw [HNN.out]; exact hle⟩, below_then (below_then (below_then LBD hb1) hb2) hb3⟩
      · have b1 : ¬ ((n : Int) ≤ 3000) := by omega
        go_wp2
        go_ret
        exact ⟨false, by simp [b1], (fun h => by cases h), below_then (below_then (below_then LBD hb1) hb2) hb3⟩
end Go.Proofs.YtipaangiehdgkaaGreatDoor.T12
