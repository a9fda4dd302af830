/-
 What is told hangs on the bytes as they are, and changes nothing of them: the walk.
-/
import Derived.Test.YtckcojkpghiclaaGreatDoorDecLaw
import Derived.Test.YtckcojkpghiclaaGreatDoorTrRsame
import Derived.Test.YtckcojkpghiclaaGreatDoorRecPut
namespace Go.Proofs.YtckcojkpghiclaaGreatDoor.T11.lawDecodeOwn
set_option maxRecDepth 100000
open Go.ChangeShapes Go.WideShapes Go.ChangeAt Go.RowKit
open Go.Proofs.YtckcojkpghiclaaGreatDoor.T9 Go.Proofs.YtckcojkpghiclaaGreatDoor.T4 Go.Proofs.YtckcojkpghiclaaGreatDoor.T12 Go.Proofs.YtckcojkpghiclaaGreatDoor.T11
def U8 (xs : List Value) : Prop := ∀ u ∈ xs, ∃ z : Int, u = .int .u8 z
theorem u8_bs (l : List UInt8) : U8 (bs l) := fun u hu => by
 obtain ⟨b, _, rfl⟩ := List.mem_map.1 hu
 exact ⟨_, rfl⟩
theorem u8_set {xs : List Value} (h : U8 xs) (k : Nat) (z : Int) : U8 (xs.set k (.int .u8 z)) := fun u hu => by
 rcases List.mem_or_eq_of_mem_set hu with h1 | rfl
 ·exact h u h1
 ·exact ⟨_, rfl⟩
theorem own_blk {w : World} {b : Nat} {e : TypeId} {size : Nat} {v : Value} {n : Nat} {xs : List Value} (h : w.ownsRow b e size v n xs) : ∀ g, v.ownBlock = some g → b ≤ g ∧ g < w.heap.size := by
 rcases h.2 with ⟨rfl, _⟩ | ⟨g', cap, cur, rfl, h1, h2, _⟩
 ·intro g hg; cases hg
 ·intro g hg
  obtain rfl : g' = g := by simpa [Value.ownBlock] using hg
  exact ⟨h1, (Array.getElem?_eq_some_iff.1 h2).1⟩
set_option maxRecDepth 1000000 in
set_option maxHeartbeats 8000000 in
theorem walk (w : World) (T : Tabs w ∧ Wires w) (s : Sc) (vM vE : Value) (hs0 : SAt w.heap.size w s vM vE) (hin : ScIn s) (m : Int) (hm1 : -9223372036854775808 ≤ m) (hm2 : m ≤ 9223372036854775807)
  (A : Option Addr) (c : Nat) (l : List UInt8) (hr : SlB w A c l) :
  Calls Tryz.prog 7 #[.agg #[vM, vE], .int .i64 m, .slice A l.length c] w fun e w' => e = .returned (.bool true) ∧ Below w.heap.size w w' := by
 obtain ⟨i0, hi, hz0, hz1, hz2⟩ := info_parts info_u8
 obtain ⟨A1, q1, A2, q2, rfl, rfl⟩ := sat_shape hs0
 have X1 := heap_alloc_new w (.cells #[.slice A1 s.M.length q1, .slice A2 s.E.length q2] 25)
 have LBD := below_new w (.cells #[.slice A1 s.M.length q1, .slice A2 s.E.length q2] 25)
 have HS := Lib.hid (fun wx (h : Below w.heap.size w wx) => sat_up hs0 h)
 obtain ⟨z, hz⟩ : ∃ x, codeE (toldE s m l) = x := ⟨_, rfl⟩
 obtain ⟨X, hX⟩ : ∃ x, msgE (toldE s m l) = x := ⟨_, rfl⟩
 have HDC := Lib.hid (fun (A : Option Addr) (c : Nat) wx (h : Below w.heap.size w wx) (hr : SlB wx A c l) (hl : l.length ≤ 10000) => dec_both _ _ m A c _ z X l wx rfl hz hX hl (sat_up hs0 h) hin hr (T.2.on h) (T.1.on h))
 have HT := Lib.hid T
 have HR := Lib.hid (fun wx (h : Below w.heap.size w wx) => hr.on h)
 obtain ⟨n, hn⟩ : ∃ n, l.length = n := ⟨_, rfl⟩
 have HN : Hid (l.length = n) := Lib.hid hn
 rw [hn] at HDC ⊢
 clear hs0 T hr hm1 hm2 hz hX hn
 have HAW := Lib.hid (awake11_any _ (HT.out.1.on LBD) (HT.out.2.on LBD))
 have HX1 := Lib.hid (And.intro X1 LBD)
 clear X1 LBD
 go_enter Tryz.func7, Tryz.ntmps7
 go_wp2_with fail
 refine HAW.out.mono ?_
 rintro e w1 ⟨rfl, hb1⟩
 have hb01 := below_then HX1.out.2 hb1
 have Y1 := box_on HX1.out.1 hb1
 clear hb1 HAW HX1
 obtain ⟨y1, y2⟩ := box2' Y1
 go_wp2_with fail
 refine (fews_any _ s _ _ w1 (Nat.le_refl _) (HS.out _ hb01)).mono ?_
 rintro e w2 ⟨rfl, hb2⟩
 have hb02 := below_then hb01 hb2
 have Y1 := box_on Y1 hb2
 clear hb2 y1 y2 hb01
 obtain ⟨y1, y2⟩ := box2' Y1
 obtain ⟨fw, hfw⟩ : ∃ b, fewS s = b := ⟨_, rfl⟩
 rw [hfw]
 clear hfw
 cases fw with
 | false =>
  go_wp2
  go_ret
  exact ⟨rfl, hb02⟩
 | true =>
  by_cases hl : n ≤ 2000
  ·have d1 : decide ((2000 : Int) < (n : Int)) = false := by simp; omega
   have HB2 := Lib.hid hb02
   have HY1 := Lib.hid Y1
   have HWB := Lib.hid (show w.heap.size < w2.heap.size from (Array.getElem?_eq_some_iff.1 Y1).1)
   have hra : Sl w2 A n c 1 (bs l) := HN.out ▸ HR.out _ hb02
   clear Y1 hb02 y1 y2
   go_wp2_with (at_builtin; refine wpList_app_sl rfl _ _ 26 rfl w2.heap.size 5 i0 (.int .u8 0) 1 1 Tryz.underlying26 hi hz0 hz1 hz2 rfl (by omega) (.slice none 0 0) 0 [] rfl (World.ownsRow_nil _ _ _ _) A n c (bs l) rfl hra (bs_one l) (by unfold maxLen; omega) (by omega) (Nat.le_refl _) ?_; intro v3 w3 hown3 hg3; have hb3 : Below w2.heap.size w2 w3 := (Below.refl _ _).grown hg3 (Nat.le_refl _) (by intro k hk; cases hk); rw [Nat.zero_add, List.nil_append] at hown3; (obtain ⟨Ac, cc, rfl, hsc⟩ := Sl.of_own hown3); have hb03 := below_then HB2.out hb3; have HY3 := Lib.hid (box_on HY1.out hb3); (obtain ⟨y1, y2⟩ := box2' HY3.out))
   have hsc2 : SlB w3 Ac cc l := by unfold SlB; rw [HN.out]; exact hsc
   have HC1 := Lib.hid (HDC.out Ac cc w3 hb03 hsc2 (by omega))
   have HOW := Lib.hid (And.intro hown3 hb3.size)
   clear hra hown3 hg3 hb3 hsc HB2 HY1
   have HB3 := Lib.hid (And.intro hb03 hsc2)
   clear hb03 hsc2
   refine HC1.out.mono ?_
   rintro e w4 ⟨⟨A4, n4, c4, rfl, hm4⟩, hb4⟩
   have N4 := below_new w4 (.cells #[.slice A4 n4 c4] 31)
   have T4 := heap_alloc_new w4 (.cells #[.slice A4 n4 c4] 31)
   have b4 := below_then hb4 N4
   have hm5 := T9.MAt.imp (Ow.hi (hi_below _ N4)) 64 _ _ hm4
   have hb05 := below_then HB3.out.1 b4
   have Y5 := box_on HY3.out b4
   have ho5 := own_hi HOW.out.1 (hi_below w2.heap.size b4)
   have hsc5 := HB3.out.2.on b4
   have HGB := Lib.hid (And.intro (own_blk HOW.out.1) HOW.out.2)
   have g5 : w3.heap.size ≤ w4.heap.size := hb4.size
   have hwf : w.heap.size < w3.heap.size := (Array.getElem?_eq_some_iff.1 HY3.out).1
   obtain ⟨p4, hp4⟩ : ∃ p, p = w4.heap.size := ⟨_, rfl⟩
   obtain ⟨W5, hW5⟩ : ∃ W, W = w4.alloc (.cells #[.slice A4 n4 c4] 31) := ⟨_, rfl⟩
   rw [← hp4] at T4 g5
   rw [← hW5] at T4 hm5 hb05 Y5 ho5 hsc5
   have HBY := Lib.hid (bytes_at A Ac n n c cc l l HN.out.symm HN.out.symm W5 (by have := HN.out; omega) (by have := HN.out; omega) (HR.out _ hb05) hsc5)
   rw [decide_eq_true rfl] at HBY
   have H5 := Lib.hid (And.intro hb05 (And.intro Y5 (And.intro T4 (And.intro hm5 ho5))))
   clear y1 y2 HC1 HOW HB3 HY3 hm4 hb4 N4 T4 b4 hm5 hb05 Y5 ho5 hsc5
   go_wp2_with fail
   rw [← hW5, ← hp4]
   clear hW5 hp4
   refine HBY.out.mono ?_
   rintro e w6 ⟨rfl, hb6⟩
   have hb06 := below_then H5.out.1 hb6
   have Y6 := box_on H5.out.2.1 hb6
   have T6 := box_on H5.out.2.2.1 hb6
   have hm6 := T9.MAt.imp (Ow.hi (hi_below _ hb6)) 64 _ _ H5.out.2.2.2.1
   have ho6 := own_hi H5.out.2.2.2.2 (hi_below w2.heap.size hb6)
   have H6 := Lib.hid (And.intro hb06 (And.intro Y6 (And.intro T6 hm6)))
   have HO6 := Lib.hid ho6
   clear hb6 hb06 Y6 T6 hm6 ho6 H5 HBY
   go_wp2
   go_loopw [12] (fun i wr => ∃ (k : Nat) (xs : List Value), i = .int .i64 k ∧ k ≤ n ∧ U8 xs ∧ wr.ownsRow w2.heap.size 5 1 (.slice Ac n cc) n xs ∧ (∀ q, q < w6.heap.size → (∀ g, (Value.slice Ac n cc).ownBlock = some g → q ≠ g) → wr.heap[q]? = w6.heap[q]?) ∧ wr.heap.size = w6.heap.size ∧ wr.os = w6.os ∧ wr.tape = w6.tape ∧ wr.output = w6.output) (fun i _ => n - (intOf i).toNat)
   case atStart => exact ⟨0, _, rfl, Nat.zero_le _, u8_bs l, HO6.out, fun _ _ _ => rfl, rfl, rfl, rfl, rfl⟩
   case round =>
    obtain ⟨k, xs, rfl, hk, hu, ho, hf, hsz, he1, he2, he3⟩ := hrel
    by_cases hlt : k < n
    ·obtain ⟨gc, c9, hv, hg⟩ := own_there2 ho (by omega) (by decide)
     obtain ⟨rfl, -, rfl⟩ := Value.slice.inj hv
     obtain ⟨u, hx⟩ : ∃ u, xs[k]? = some u := ⟨_, List.getElem?_eq_getElem (by rw [ho.1]; omega)⟩
     obtain ⟨zu, rfl⟩ := hu u (List.mem_of_getElem? hx)
     have hcell : _ = _ := (ho.cellAt k (by omega)).trans hx
     have hfz := ho.frozenAt k
     have HST := Lib.hid (fun z => And.intro (ho.stored k (.int .u8 z)).1 (And.intro (u8_set hu k z) (show ∀ q, q < w6.heap.size → (∀ g, (Value.slice (some ⟨gc, 0, none⟩) n cc).ownBlock = some g → q ≠ g) → (wr.setCell ⟨gc, k, none⟩ (.int .u8 z)).heap[q]? = w6.heap[q]? from fun q h1 h2 => (heap_setCell_other _ ⟨gc, k, none⟩ q _ (h2 gc rfl)).trans (hf q h1 h2))))
     have HE := Lib.hid (And.intro hsz (And.intro he1 (And.intro he2 he3)))
     clear hv hg hx ho hu hf hsz he1 he2 he3
     go_wp2
     exact ⟨⟨k + 1, _, by go_num, by omega, (HST.out _).2.1, (HST.out _).1, (HST.out _).2.2, by simp [HE.out.1], HE.out.2.1, HE.out.2.2.1, HE.out.2.2.2⟩, by simp [intOf]; omega⟩
    ·obtain rfl : k = n := by omega
     have hgb := HGB.out
     have hbr : Below w.heap.size w6 wr := ⟨he1, he2, he3, by omega, fun q hq => hf q (by have := H6.out.1.size; omega) (fun g h => by have := hgb.1 g h; have := HWB.out; omega)⟩
     have hb0r := H6.out.1.trans hbr
     have hfar : ∀ q, q < w6.heap.size → (q < w2.heap.size ∨ w3.heap.size ≤ q) → wr.heap[q]? = w6.heap[q]? := fun q h1 h2 => hf q h1 (fun g h => by have := hgb.1 g h; omega)
     have Y7 := (hfar _ (Array.getElem?_eq_some_iff.1 H6.out.2.1).1 (.inl HWB.out)).trans H6.out.2.1
     have T7 := (hfar _ (Array.getElem?_eq_some_iff.1 H6.out.2.2.1).1 (.inr g5)).trans H6.out.2.2.1
     have hm7 := T9.MAt.imp (Ow.hi (w := w6) (w' := wr) (b := w3.heap.size) (fun q h1 h2 => hfar q h2 (.inr h1))) 64 _ _ H6.out.2.2.2
     have HC7 := Lib.hid (HDC.out A c wr hb0r (HR.out _ hb0r) (by omega))
     have H7 := Lib.hid (And.intro hb0r (And.intro Y7 (And.intro T7 (own_rd hm7))))
     obtain ⟨y1, y2⟩ := box2' Y7
     clear ho hu hf hsz he1 he2 he3 hgb hbr hb0r hfar Y7 T7 hm7 H6 HO6
     go_wp2_with fail
     refine HC7.out.mono ?_
     rintro e w8 ⟨⟨A8, n8, c8, rfl, hm8⟩, hb8⟩
     have N8 := below_new w8 (.cells #[.slice A8 n8 c8] 31)
     have t8 := bx1 (heap_alloc_new w8 (.cells #[.slice A8 n8 c8] 31))
     have b8 := below_then hb8 N8
     have t7 := bx1 (box_on H7.out.2.2.1 b8)
     have hx8 := rd_up N8 (own_rd hm8)
     have hx7 := rd_up b8 H7.out.2.2.2
     have HB8 := Lib.hid (below_then H7.out.1 b8)
     have b9 : ((z : Int) == (z : Int)) = true := by simp
     have HSM := Lib.hid (rsame_any9 _ 64 X X _ _ _ (Nat.le_refl _) hx7 hx8)
     rw [eqB_yes rfl] at HSM
     clear hm8 hb8 N8 b8 hx8 hx7 H7 HC7 y1 y2
     go_wp2_with fail
     refine HSM.out.mono ?_
     rintro e w9 ⟨rfl, hb9⟩
     have HB9 := Lib.hid (below_then HB8.out hb9)
     clear hb9 HB8 HSM t7 t8
     go_wp2
     go_ret
     exact ⟨rfl, HB9.out⟩
  ·have d1 : decide ((2000 : Int) < (n : Int)) = true := by simp; omega
   go_wp2
   go_ret
   exact ⟨rfl, hb02⟩
end Go.Proofs.YtckcojkpghiclaaGreatDoor.T11.lawDecodeOwn
