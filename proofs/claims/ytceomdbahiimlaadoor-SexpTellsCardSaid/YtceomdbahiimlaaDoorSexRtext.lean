/-
  The document's own text of a node, and Print.
-/
import Derived.Test.YtceomdbahiimlaaDoorSexRmay2
import Derived.Test.YtceomdbahiimlaaDoorSexCnt
import Derived.Test.YtceomdbahiimlaaDoorTokRquote
namespace Go.Proofs.YtceomdbahiimlaaDoor.T14
set_option maxRecDepth 100000

open Go.RowKit

def RTxtH (B d : Nat) : Prop := ∀ (x : Nd) (u : Value) (w : World), B ≤ w.heap.size → NAt (Rd B w) d x [.int .i64 x.kind, .string (tx x.text), .int .i64 x.num, .int .i64 x.at_, u] → Sm 1000000 x → x.str.length ≤ 1000000000 →
  Calls Tryd.prog 29 #[.agg #[.int .i64 x.kind, .string (tx x.text), .int .i64 x.num, .int .i64 x.at_, u]] w fun e w' => e = .returned (.string (tx x.str)) ∧ Below w.heap.size w w'
theorem str_part {x y : Nd} (h4 : x.kind = 4) (hy : y ∈ x.l) : y.str.length ≤ x.str.length := by
  rw [x.str_eq, if_neg (by omega), if_pos h4]
  have : ∀ L : List (List UInt8), ∀ z ∈ L, z.length ≤ (sepB L).length := by
    intro L
    induction L with
    | nil => intro z hz; cases hz
    | cons a L ih =>
      intro z hz
      cases L with
      | nil => obtain rfl := List.mem_singleton.1 hz; exact Nat.le_refl _
      | cons b L =>
        simp only [sepB, List.length_append, List.length_cons]
        rcases List.mem_cons.1 hz with rfl | hz
        · omega
        · have := ih z hz; omega
  have := this _ _ (List.mem_map_of_mem (f := Nd.str) hy)
  simp only [List.length_cons, List.length_append, List.length_nil]
  omega
set_option maxRecDepth 1000000 in
set_option maxHeartbeats 8000000 in
theorem rtxt_step {B d : Nat} (H : RTxtH B d) : RTxtH B (d + 1) := by
  intro x u w hB hx hsm hstr
  obtain ⟨u', hu, hl⟩ := hx
  obtain rfl : u = u' := by simpa using hu
  obtain ⟨A, c, xs, rfl, hs, hbl, hr, hn⟩ := hl.open_
  have HX := Lib.hid (heap_alloc_new w (.cells #[.int .i64 x.kind, .string (tx x.text), .int .i64 x.num, .int .i64 x.at_, .slice A x.l.length c] 24))
  have hbW := below_new w (.cells #[.int .i64 x.kind, .string (tx x.text), .int .i64 x.num, .int .i64 x.at_, .slice A x.l.length c] 24)
  have HBW := Lib.hid hbW
  obtain ⟨n0, n1, n2, n3, n4⟩ := five_cells HX.out
  have HS := Lib.hid hs
  have HBL := Lib.hid hbl
  have HR := Lib.hid hr
  have HH := Lib.hid H
  have HSM := Lib.hid hsm
  have hE : Hid (x.str = if x.kind = 2 then quote x.text else if x.kind = 4 then 40 :: (sepB (x.l.map Nd.str) ++ [41]) else x.text) := Lib.hid x.str_eq
  have hpart := fun y hy h4 => @str_part x y h4 hy
  have HQ := Lib.hid (fun W => rquote_any (tx x.text) (by rw [size_tx]; exact hsm.head) W)
  rw [tx_list] at HQ
  clear hs hbl hr hl H hsm hu
  by_cases h2 : x.kind = 2
  · have hf : Hid (tx x.str = txt (quote x.text)) := Lib.hid (by rw [hE.out, if_pos h2]; rfl)
    have k2 : (x.kind == 2) = true := by rw [beq_iff_eq]; exact h2
    clear h2 hpart hbW hstr
    go_enter Tryd.func29, Tryd.ntmps29
    go_wp2_with fail
    refine (HQ.out _).mono ?_
    rintro e w9 ⟨rfl, hb9⟩
    go_wp2
    go_ret
    exact ⟨by rw [hf.out]; rfl, below_then HBW.out hb9⟩
  · have k2 : (x.kind == 2) = false := by rw [beq_eq_false_iff_ne]; exact h2
    by_cases h4 : x.kind = 4
    · have k4 : (x.kind != 4) = false := by rw [h4]; rfl
      have hf : Hid (tx x.str = tx (40 :: (sepB (x.l.map Nd.str) ++ [41]))) := Lib.hid (by rw [hE.out, if_neg h2, if_pos h4])
      have hlen : (sepB (x.l.map Nd.str)).length ≤ 1000000000 := by
        rw [hE.out, if_neg h2, if_pos h4] at hstr
        simp only [List.length_cons, List.length_append] at hstr
        omega
      have HP := Lib.hid (fun y hy => Nat.le_trans (hpart y hy h4) hstr)
      have HLEN := Lib.hid hlen
      generalize x.str = ST at *
      clear h2 h4 hpart hstr hE hlen
      go_enter Tryd.func29, Tryd.ntmps29
      go_wp2
      obtain ⟨W, hW⟩ : ∃ W, W = w.alloc (.cells #[.int .i64 x.kind, .string (tx x.text), .int .i64 x.num, .int .i64 x.at_, .slice A x.l.length c] 24) := ⟨_, rfl⟩
      have X1 : W.heap[w.heap.size]? = some (.cells #[.int .i64 x.kind, .string (tx x.text), .int .i64 x.num, .int .i64 x.at_, .slice A x.l.length c] 24 (0, 0)) := by rw [hW]; exact HX.out
      have HBW2 : Hid (Below w.heap.size w W) := Lib.hid (by rw [hW]; exact hbW)
      rw [← hW]
      clear hW HX HBW hbW n0 n1 n2 n3 n4
      go_loopw [3, 4] (fun o j wx => ∃ t : Nat, j = .int .i64 t ∧ t ≤ x.l.length ∧ o = .string (tx (40 :: sepB ((x.l.take t).map Nd.str))) ∧ Below W.heap.size W wx) (fun _ j _ => x.l.length - (intOf j).toNat)
      case atStart => exact ⟨0, rfl, by omega, rfl, Below.refl _ _⟩
      case round =>
        obtain ⟨t, rfl, ht, rfl, hbx⟩ := hrel
        have HBX := Lib.hid hbx
        have HBA := Lib.hid (HBW2.out.trans (hbx.mono HBW2.out.size))
        obtain ⟨n0, n1, n2, n3, n4⟩ := five_cells ((hbx.block _ (box_lt X1)).trans X1)
        have hts : (tx (40 :: sepB ((x.l.take t).map Nd.str))).size ≤ 1000000001 := by
          rw [size_tx, List.length_cons]
          have := sepB_len x.l t
          have := HLEN.out
          omega
        clear hbx
        by_cases htl : t < x.l.length
        · obtain ⟨y, hy⟩ : ∃ y, x.l[t]? = some y := ⟨_, List.getElem?_eq_getElem htl⟩
          have hlo := Lo.below HBA.out hB
          obtain ⟨ad1, uy, rfl, hg1, hcy, p0, p1, p2, p3, p4⟩ := row5e (sl_low HS.out HBL.out hlo) (HR.out.imp fun a cs h => NRd.low hlo h) hy
          obtain ⟨A3, c3, rfl⟩ := NAt.shape hcy
          have hys := HP.out y (List.mem_of_getElem? hy)
          have HC := Lib.hid (HH.out y _ wr (Nat.le_trans hB HBA.out.size) hcy (HSM.out.below (List.mem_of_getElem? hy)) hys)
          have hst := sepB_step x.l t y hy
          have hyz : (tx y.str).size ≤ 1000000000 := by rw [size_tx]; exact hys
          have HN : Hid (tx (40 :: sepB ((x.l.take (t + 1)).map Nd.str)) = (if t = 0 then tx (40 :: sepB ((x.l.take t).map Nd.str)) else tx (40 :: sepB ((x.l.take t).map Nd.str)) ++ ⟨#[32]⟩) ++ tx y.str) := Lib.hid (by
            rw [hst]
            by_cases h0 : t = 0
            · subst h0
              simp only [if_true, List.nil_append, List.take_zero, List.map_nil, sepB]
              rw [tx_txt, tx_txt, tx_txt, txt_app]
              rfl
            · rw [if_neg h0, if_neg h0, show (⟨#[32]⟩ : ByteArray) = txt [32] from rfl, tx_txt, tx_txt, tx_txt, txt_app, txt_app]
              simp)
          have HBR := Lib.hid hst
          clear hcy hlo hst hys
          generalize tx (40 :: sepB ((x.l.take t).map Nd.str)) = O at *
          by_cases h0 : t = 0
          · have HN0 := Lib.hid (show tx (40 :: sepB ((x.l.take (t + 1)).map Nd.str)) = O ++ tx y.str by rw [HN.out, if_pos h0])
            have d0 : decide ((0 : Int) < (t : Int)) = false := by rw [decide_eq_false_iff_not]; omega
            have d1 : decide (0 < t) = false := by rw [decide_eq_false_iff_not]; omega
            clear HN h0
            go_wp2_with fail
            refine HC.out.mono ?_
            rintro e w9 ⟨rfl, hb9⟩
            go_wp2
            refine ⟨⟨t + 1, ?_, by omega, by rw [HN0.out], HBX.out.trans (hb9.mono HBX.out.size)⟩, ?_⟩
            · go_num
            · simp [intOf]; omega
          · have HN0 := Lib.hid (show tx (40 :: sepB ((x.l.take (t + 1)).map Nd.str)) = O ++ ⟨#[32]⟩ ++ tx y.str by rw [HN.out, if_neg h0])
            have d0 : decide ((0 : Int) < (t : Int)) = true := by rw [decide_eq_true_eq]; omega
            have d1 : decide (0 < t) = true := by rw [decide_eq_true_eq]; omega
            clear HN h0
            go_wp2_with fail
            refine HC.out.mono ?_
            rintro e w9 ⟨rfl, hb9⟩
            go_wp2
            refine ⟨⟨t + 1, ?_, by omega, by rw [HN0.out], HBX.out.trans (hb9.mono HBX.out.size)⟩, ?_⟩
            · go_num
            · simp [intOf]; omega
        · obtain rfl : t = x.l.length := by omega
          have HF : Hid (tx ST = tx (40 :: sepB ((x.l.take x.l.length).map Nd.str)) ++ ⟨#[41]⟩) := Lib.hid (by
            rw [hf.out, List.take_length, show (⟨#[41]⟩ : ByteArray) = txt [41] from rfl, tx_txt, tx_txt, txt_app]
            rfl)
          generalize tx (40 :: sepB ((x.l.take x.l.length).map Nd.str)) = O at *
          go_wp2
          go_ret
          exact ⟨by rw [HF.out]; rfl, HBA.out⟩
    · have k4 : (x.kind != 4) = true := by rw [bne_iff_ne]; exact h4
      have hf : Hid (tx x.str = tx x.text) := Lib.hid (by rw [hE.out, if_neg h2, if_neg h4])
      clear h2 h4 hpart hbW hstr
      go_enter Tryd.func29, Tryd.ntmps29
      go_wp2
      go_ret
      exact ⟨by rw [hf.out]; rfl, HBW.out⟩
theorem rtxt_all (B : Nat) : ∀ d, RTxtH B d
  | 0 => fun _ _ _ _ h => h.elim
  | d + 1 => rtxt_step (rtxt_all B d)
set_option maxRecDepth 1000000 in
set_option maxHeartbeats 4000000 in
/-- Print. -/
theorem rprint_any (d : Nat) (x : Nd) (u : Value) (w : World) (hx : NAt (Rd w.heap.size w) d x [.int .i64 x.kind, .string (tx x.text), .int .i64 x.num, .int .i64 x.at_, u]) (hsm : Sm 1000000 x) (hstr : x.str.length ≤ 1000000000) :
    Calls Tryd.prog 17 #[.agg #[.int .i64 x.kind, .string (tx x.text), .int .i64 x.num, .int .i64 x.at_, u]] w fun e w' => e = .returned (.string (tx (printB Lib.itoa x))) ∧ Below w.heap.size w w' := by
  obtain ⟨A, c, rfl⟩ := NAt.shape hx
  have hbW := below_new w (.cells #[.int .i64 x.kind, .string (tx x.text), .int .i64 x.num, .int .i64 x.at_, .slice A x.l.length c] 24)
  have HX := Lib.hid (heap_alloc_new w (.cells #[.int .i64 x.kind, .string (tx x.text), .int .i64 x.num, .int .i64 x.at_, .slice A x.l.length c] 24))
  obtain ⟨n0, n1, n2, n3, n4⟩ := five_cells HX.out
  have HM := Lib.hid (rmay_any d x _ _ (NRd.mono hbW.size (NRd.low (Lo.below hbW (Nat.le_refl _)) hx)) hsm)
  have HT := Lib.hid (fun W (h : Below w.heap.size w W) => rtxt_all w.heap.size d x _ W h.size (NRd.low (Lo.below h (Nat.le_refl _)) hx) hsm hstr)
  have HBW := Lib.hid hbW
  obtain ⟨mb, hmb⟩ : ∃ b, mayB Lib.itoa x = b := ⟨_, rfl⟩
  rw [hmb] at HM
  have HP : Hid (printB Lib.itoa x = if mb = true then x.str else []) := Lib.hid (by unfold printB; rw [hmb])
  generalize printB Lib.itoa x = PB at *
  clear hx hsm hbW hstr hmb
  go_enter Tryd.func17, Tryd.ntmps17
  go_wp2_with fail
  refine HM.out.mono ?_
  rintro e w9 ⟨rfl, hb9⟩
  have hb10 := below_then HBW.out hb9
  obtain ⟨m0, m1, m2, m3, m4⟩ := five_cells ((hb9.block _ (box_lt HX.out)).trans HX.out)
  cases mb with
  | true =>
    go_wp2_with fail
    refine (HT.out _ hb10).mono ?_
    rintro e w11 ⟨rfl, hb11⟩
    go_wp2
    go_ret
    exact ⟨by rw [HP.out]; rfl, below_then hb10 hb11⟩
  | false =>
    go_wp2
    go_ret
    exact ⟨by rw [HP.out]; rfl, hb10⟩
end Go.Proofs.YtceomdbahiimlaaDoor.T14
