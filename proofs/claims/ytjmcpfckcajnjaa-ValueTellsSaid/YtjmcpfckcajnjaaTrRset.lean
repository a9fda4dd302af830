/-
  The document's own Set: a message with a slot set.
-/
import Derived.Test.YtjmcpfckcajnjaaTrRown
import Derived.BigQuiet
namespace Go.Proofs.Ytjmcpfckcajnjaa.T9
set_option maxRecDepth 100000

open Go.RowKit

/-- False, not told to the simplifier. -/
def FF : Bool := false
theorem add_blk (a : Addr) (n : Nat) : (a.add n).block = a.block := by unfold Addr.add; split <;> rfl
theorem onceS {P G : Prop} (f : Hid P → G) (h : P) : G := f (Lib.hid h)
theorem four_newS (w : World) (o1 o2 o3 o4 : Obj) : ((((w.alloc o1).alloc o2).alloc o3).alloc o4).heap[w.heap.size]? = some o1 ∧ ((((w.alloc o1).alloc o2).alloc o3).alloc o4).heap[w.heap.size + 1]? = some o2 ∧ ((((w.alloc o1).alloc o2).alloc o3).alloc o4).heap[w.heap.size + 2]? = some o3 ∧ ((((w.alloc o1).alloc o2).alloc o3).alloc o4).heap[w.heap.size + 3]? = some o4 ∧ Below w.heap.size w ((((w.alloc o1).alloc o2).alloc o3).alloc o4) := by
  have e3 : (((w.alloc o1).alloc o2).alloc o3).heap.size = w.heap.size + 3 := by simp
  obtain ⟨h1, h2, h3, L3⟩ := three_boxes w o1 o2 o3
  have L4 := below_new (((w.alloc o1).alloc o2).alloc o3) o4
  have h4 := heap_alloc_new (((w.alloc o1).alloc o2).alloc o3) o4
  rw [e3] at h4
  exact ⟨box_on h1 L4, box_on h2 L4, box_on h3 L4, h4, below_then L3 L4⟩
theorem setR_hit {s a : So} {l : List So} {k : Nat} {d : Bool} (h : l[k]? = some a) (he : a.no = s.no) : setR s (l.drop k) d = setR s (l.drop (k + 1)) d := by
  obtain ⟨hk, rfl⟩ := List.getElem?_eq_some_iff.1 h
  rw [List.drop_eq_getElem_cons hk]
  show (if _ then _ else _) = _
  rw [if_pos he]
theorem setR_put {s a : So} {l : List So} {k : Nat} (h : l[k]? = some a) (he : ¬ a.no = s.no) (h2 : s.no < a.no) : setR s (l.drop k) false = s :: a :: setR s (l.drop (k + 1)) true := by
  obtain ⟨hk, rfl⟩ := List.getElem?_eq_some_iff.1 h
  rw [List.drop_eq_getElem_cons hk]
  show (if _ then _ else _) = _
  rw [if_neg he, if_pos ⟨h2, rfl⟩]
theorem setR_pass {s a : So} {l : List So} {k : Nat} {d : Bool} (h : l[k]? = some a) (he : ¬ a.no = s.no) (h2 : ¬ (a.no > s.no ∧ d = false)) : setR s (l.drop k) d = a :: setR s (l.drop (k + 1)) d := by
  obtain ⟨hk, rfl⟩ := List.getElem?_eq_some_iff.1 h
  rw [List.drop_eq_getElem_cons hk]
  show (if _ then _ else _) = _
  rw [if_neg he, if_neg h2]
set_option maxRecDepth 1000000 in
set_option maxHeartbeats 8000000 in
theorem rset_grow (B d : Nat) (m : Mg) (s : So) (u u1 u2 : Value) (w : World) (hB : B ≤ w.heap.size) (hm : MRd B w (d + 1) m u) (hs0 : SAt' (Rd B w) d s [.int .i64 s.no, u1, u2]) (hsm : m.cnt ≤ 1000000) (hss : cS s ≤ 1000000) (b : Nat) (hb : b ≤ w.heap.size) :
    Calls Try.prog 12 #[.agg #[u], .agg #[.int .i64 s.no, u1, u2]] w fun e w' => ∃ x1 zs, e = .returned (.agg #[x1]) ∧ Grow (fun R => SAt' R d) 27 3 b w' x1 (setM m s).F zs ∧ Below w.heap.size w w' := by
  obtain ⟨u', hu, hl⟩ := hm
  simp only [List.cons.injEq, and_true] at hu
  subst hu
  obtain ⟨A, c, xs, rfl, hs, hbl, hr, hn⟩ := hl.open_
  obtain ⟨B1, d1, B2, d2, -, rfl, rfl⟩ := slot_shape hs0
  obtain ⟨i0, hi, hz0, hz1, hz2⟩ := info_parts info_slot
  have hcf := cnt_F m
  obtain ⟨T1, T2, T3, T4, L4⟩ := four_newS w (.cells #[.slice A m.F.length c] 24) (.cells #[.int .i64 s.no, .slice B1 s.K.length d1, .slice B2 s.V.length d2] 27) (.cells #[.slice none 0 0] 24) (.cells #[.slice none 0 0] 24)
  have hsz4 : ((((w.alloc (.cells #[.slice A m.F.length c] 24)).alloc (.cells #[.int .i64 s.no, .slice B1 s.K.length d1, .slice B2 s.V.length d2] 27)).alloc (.cells #[.slice none 0 0] 24)).alloc (.cells #[.slice none 0 0] 24)).heap.size = w.heap.size + 4 := by simp
  have HS := Lib.hid hs
  have HR := Lib.hid hr
  have HBB := Lib.hid hbl
  have HSL := Lib.hid hs0
  clear hs hr hl hbl hs0
  obtain ⟨q1, q2, q3⟩ := bx3 T2
  go_enter Try.func12, Try.ntmps12
  go_wp2
  obtain ⟨W0, hW0⟩ : ∃ W, W = ((((w.alloc (.cells #[.slice A m.F.length c] 24)).alloc (.cells #[.int .i64 s.no, .slice B1 s.K.length d1, .slice B2 s.V.length d2] 27)).alloc (.cells #[.slice none 0 0] 24)).alloc (.cells #[.slice none 0 0] 24)) := ⟨_, rfl⟩
  rw [← hW0] at T1 T2 T3 T4 L4 hsz4
  (try rw [← hW0])
  clear hW0 q1 q2 q3
  go_loopw [6, 7] (fun dn i wr => ∃ (k : Nat) (bd : Bool) (P : List So) (v : Value) (zs : List Value), dn = .bool bd ∧ i = .int .i64 k ∧ k ≤ m.F.length ∧ P ++ setR s (m.F.drop k) bd = (setM m s).F ∧ wr.heap[w.heap.size + 3]? = some (.cells #[v] 24 (0, 0)) ∧ Grow (fun R => SAt' R d) 27 3 (w.heap.size + 4) wr v P zs ∧ Below (w.heap.size + 3) W0 wr ∧ w.heap.size + 4 ≤ wr.heap.size) (fun _ i _ => m.F.length - (intOf i).toNat)
  case atStart =>
    refine ⟨0, _, [], _, [], rfl, rfl, by omega, ?_, T4, Grow.nil _ _ _ _ _, Below.refl _ _, by omega⟩
    rw [← setR_is, List.drop_zero, List.nil_append]
    congr 1
    by_cases h : s.V = []
    · simp [h]
    · have h2 : ¬ s.V.length = 0 := fun e => h (List.eq_nil_of_length_eq_zero e)
      simp [h, h2]
  case round =>
    obtain ⟨k, bd, P, v, zs, rfl, rfl, hk, hq, hX, hgx, hbx, hsx⟩ := hrel
    have hpl : P.length ≤ 2000000 := by
      have h1 := congrArg List.length hq
      rw [List.length_append] at h1
      have h2 := cnt_set m s
      have h3 := cnt_F (setM m s)
      omega
    have hm1 := (hbx.block _ (show w.heap.size < w.heap.size + 3 by omega)).trans T1
    have hm2 := (hbx.block _ (show w.heap.size + 1 < w.heap.size + 3 by omega)).trans T2
    have hm3 := (hbx.block _ (show w.heap.size + 2 < w.heap.size + 3 by omega)).trans T3
    have k0 := bx1 hm1
    obtain ⟨s0, s1, s2⟩ := bx3 hm2
    have g0 := bx1 hX
    have HGX := Lib.hid hgx
    have HBX := Lib.hid hbx
    have HX := Lib.hid hX
    have hBw : B ≤ wr.heap.size := by omega
    have hlo : Lo B w wr := Lo.of ((L4.trans (hbx.mono (by omega))).mono hB)
    have HQ := Lib.hid hq
    clear hgx hbx hX hq
    by_cases hlt : k < m.F.length
    · obtain ⟨a, ha⟩ : ∃ a, m.F[k]? = some a := ⟨_, List.getElem?_eq_getElem hlt⟩
      obtain ⟨ad, x, y, z, rfl, hga, hcc, c0, c1, c2⟩ := row3 sAt.len (sl_low HS.out HBB.out hlo) (HR.out.imp fun a cs h => SRd.low hlo h) ha
      obtain ⟨E1, e1, E2, e2, hx, hy, hz⟩ := slot_shape hcc
      subst hx hy hz
      have hcs := cS_le (List.mem_of_getElem? ha)
      have HA := Lib.hid ha
      have HCC := Lib.hid hcc
      have HLO := Lib.hid hlo
      clear ha hcc hlo
      by_cases he : a.no = s.no
      · have h1 : (a.no == s.no) = true := by simp [he]
        have HP := Lib.hid (setR_hit (d := bd) HA.out he)
        clear he
        go_wp2_with fail
        apply onceS
        · intro HGO
          first | go_region_law (fail) | fail
          all_goals exact HGO.out
        go_wp2
        exact ⟨⟨k + 1, bd, P, v, zs, rfl, by go_num, by omega, by rw [← HP.out]; exact HQ.out, HX.out, HGX.out.on (mono_s d) (Below.refl _ _).drew, HBX.out.drew, hsx⟩, by simp [intOf]; omega⟩
      · have h1 : (a.no == s.no) = false := by simp [he]
        by_cases h2 : s.no < a.no ∧ bd = false
        · obtain ⟨h2, rfl⟩ := h2
          have HP := Lib.hid (setR_put HA.out he h2)
          have h3 : decide (s.no < a.no) = true := decide_eq_true h2
          go_wp2_with fail
          apply onceS
          · intro HGO
            first | go_region_law (fail) | fail
            all_goals exact HGO.out
          go_wp2_with fail
          apply onceS
          · intro HGO
            first | go_region_law (fail) | fail
            all_goals exact HGO.out
          obtain ⟨wq, hwq⟩ : ∃ W, W = wr.drew.drew := ⟨_, rfl⟩
          have hbq : Below wr.heap.size wr wq := by rw [hwq]; exact (Below.refl _ _).drew.drew
          rw [← hwq]
          clear hwq
          have k0 := cell_on hbq k0
          have s0 := cell_on hbq s0
          have s1 := cell_on hbq s1
          have s2 := cell_on hbq s2
          have c0 := cell_on hbq c0
          have c1 := cell_on hbq c1
          have c2 := cell_on hbq c2
          have HXq := Lib.hid (box_on HX.out hbq)
          have g0 := bx1 HXq.out
          have HGq := Lib.hid (HGX.out.on (mono_s d) hbq)
          have HBq := Lib.hid (HBX.out.trans (hbq.mono (by omega)))
          have hsq : w.heap.size + 4 ≤ wq.heap.size := Nat.le_trans hsx hbq.size
          have hlq : Lo B w wq := HLO.out.trans (Lo.of (hbq.mono hBw))
          have HCq := Lib.hid (SRd.low (Lo.of (hbq.mono hBw)) HCC.out)
          have hBq : B ≤ wq.heap.size := Nat.le_trans hBw hbq.size
          have hDs : Below wq.heap.size wq wq.drew := (Below.refl _ _).drew
          have HCXs := Lib.hid (rslot_any (rown_any B d) s _ _ wq.drew hBq (SRd.low (Lo.below hDs hBq) (SRd.low hlq HSL.out)) (by omega) wq.heap.size (Nat.le_refl _))
          have hadB := HBB.out ad rfl (by omega)
          clear hm1 hm2 hm3 he hbq
          go_wp2_with fail
          apply onceS
          · intro HGO
            go_region_law
              (first
                | (refine step_append_lies _ rfl _ _ 22 rfl (w.heap.size + 4) 27 i0 _ 3 56 Try.underlying22 hi hz0 hz1 hz2 rfl (by decide) v P.length zs (by simp [Act.eval, Act.put]) HG8s.out.own ⟨w7s.heap.size, 0, none⟩ 1 1 [x1s, x2s, x3s] (by simp [Act.eval, Act.put]) rfl (World.news_of_block (heap_alloc_new _ _)) (sAt.oneO _ _ ho7s) (by decide) (by unfold maxLen; omega) (by omega) (by simp; omega) w7s.heap.size.succ (by simp) ?_; intro g8s cap8s w8s hown8s hg8s hat8s hlt8s; have hX8s := Lib.hid (box_far (box_on HX7s.out (below_new w7s (.cells #[x1s, x2s, x3s] 27))) hg8s HG8s.out.own (Nat.lt_succ_self (w.heap.size + 3))); have f8s : w8s.frozen? ⟨w.heap.size + 3, 0, none⟩ = false := (by simp [World.frozen?, hX8s.out]); have c8s := bx1 hX8s.out)
                | (go_simp; refine HCXs.out.mono ?_; rintro e w7s ⟨x1s, x2s, x3s, rfl, ho7s, hb7s⟩; have hb7ds := Lib.hid (hDs.trans hb7s); have HX7s := Lib.hid (box_on HXq.out hb7ds.out); have c7s := bx1 HX7s.out; have HG8s := Lib.hid ((HGq.out.on (mono_s d) hb7ds.out).on (mono_s d) (below_new w7s (.cells #[x1s, x2s, x3s] 27))); have hs7s : wq.heap.size ≤ w7s.heap.size := hb7ds.out.size; have hgls : w.heap.size + 3 < w7s.heap.size := Nat.lt_of_lt_of_le hsq hs7s)
                | fail)
            all_goals
              obtain ⟨Z1s, Z2s⟩ := cell1 hX8s.out (.slice (some ⟨g8s, 0, none⟩) (P.length + 1) cap8s)
              have hnews := (Grow.app (mono_s d) HG8s.out (a := s) (b' := wq.heap.size) (by omega) (fun k hk => HGq.out.lt k hk) (mono_s d (Ow.hi (hi_below _ (below_new w7s (.cells #[x1s, x2s, x3s] 27)))) _ _ ho7s) hown8s hg8s (hat8s.imp id fun h => by rw [h]; simp)).box (mono_s d) Z2s (Nat.lt_succ_self (w.heap.size + 3))
              have hbzs : Below (w.heap.size + 3) wq _ := ((hb7ds.out.mono (by omega)).trans ((below_new w7s (.cells #[x1s, x2s, x3s] 27)).mono (by omega))).trans ((below_row hg8s HG8s.out.own (Nat.le_succ _) (by simp; omega)).trans (below_own Z2s (Nat.le_refl _) (by have := hg8s.size; simp at this; omega)))
              go_wp2_with fail
              obtain ⟨wp, hwp⟩ : ∃ W, W = w8s.setCell ⟨w.heap.size + 3, 0, none⟩ (.slice (some ⟨g8s, 0, none⟩) (P.length + 1) cap8s) := ⟨_, rfl⟩
              have Z1p := Z1s
              have hnewp := hnews
              have hbzp := hbzs
              rw [← hwp] at Z1p hnewp hbzp ⊢
              clear hwp Z1s Z2s hnews hbzs c8s f8s hX8s hown8s hg8s hat8s hlt8s HX7s c7s HG8s hs7s hgls hb7ds ho7s hb7s
              revert Z1p hnewp hbzp
              revert wp cap8s g8s x3s x2s x1s w7s
              exact HGO.out
          intro w7s x1s x2s x3s g8s cap8s wp Z1p hnewp hbzp
          have k0 := (hbzp.cell (show (⟨w.heap.size, 0, none⟩ : Addr).block < w.heap.size + 3 from by show w.heap.size < _; omega)).trans k0
          have c0 := (hbzp.cell (show (ad.add (k * 3)).block < w.heap.size + 3 from by show (ad.add (k * 3)).block < _; rw [add_blk]; omega)).trans c0
          have c1 := (hbzp.cell (show (⟨(ad.add (k * 3)).block, (ad.add (k * 3)).off + 1, none⟩ : Addr).block < w.heap.size + 3 from by show (ad.add (k * 3)).block < _; rw [add_blk]; omega)).trans c1
          have c2 := (hbzp.cell (show (⟨(ad.add (k * 3)).block, (ad.add (k * 3)).off + 2, none⟩ : Addr).block < w.heap.size + 3 from by show (ad.add (k * 3)).block < _; rw [add_blk]; omega)).trans c2
          have HXp := Lib.hid Z1p
          have g0 := bx1 Z1p
          have HGp := Lib.hid hnewp
          have HBp := Lib.hid (HBq.out.trans hbzp)
          have hsp : w.heap.size + 4 ≤ wp.heap.size := Nat.le_trans hsq hbzp.size
          have HCp := Lib.hid (SRd.low (Lo.of (hbzp.mono (show B ≤ w.heap.size + 3 by omega))) HCq.out)
          have hBp : B ≤ wp.heap.size := by omega
          have hpp : (P ++ [s]).length ≤ 2000001 := by simp; omega
          have HPL := Lib.hid (show (P ++ [s]).length = P.length + 1 by simp)
          clear Z1p hnewp hbzp
          have hDa : Below wp.heap.size wp wp.drew := (Below.refl _ _).drew
          have HCXa := Lib.hid (rslot_any (rown_any B d) a _ _ wp.drew hBp (SRd.low (Lo.below hDa hBp) HCp.out) (by omega) wp.heap.size (Nat.le_refl _))
          go_wp2_with fail
          go_region_law
            (first
              | (refine step_append_lies _ rfl _ _ 22 rfl (w.heap.size + 4) 27 i0 _ 3 56 Try.underlying22 hi hz0 hz1 hz2 rfl (by decide) (.slice (some ⟨g8s, 0, none⟩) (P.length + 1) cap8s) (P ++ [s]).length (zs ++ [x1s, x2s, x3s]) (by simp [Act.eval, Act.put]) HG8a.out.own ⟨w7a.heap.size, 0, none⟩ 1 1 [x1a, x2a, x3a] (by simp [Act.eval, Act.put]) rfl (World.news_of_block (heap_alloc_new _ _)) (sAt.oneO _ _ ho7a) (by decide) (by unfold maxLen; omega) (by omega) (by simp; omega) w7a.heap.size.succ (by simp) ?_; intro g8a cap8a w8a hown8a hg8a hat8a hlt8a; have hX8a := Lib.hid (box_far (box_on HX7a.out (below_new w7a (.cells #[x1a, x2a, x3a] 27))) hg8a HG8a.out.own (Nat.lt_succ_self (w.heap.size + 3))); have f8a : w8a.frozen? ⟨w.heap.size + 3, 0, none⟩ = false := (by simp [World.frozen?, hX8a.out]); have c8a := bx1 hX8a.out)
              | (go_simp; refine HCXa.out.mono ?_; rintro e w7a ⟨x1a, x2a, x3a, rfl, ho7a, hb7a⟩; have hb7da := Lib.hid (hDa.trans hb7a); have HX7a := Lib.hid (box_on HXp.out hb7da.out); have c7a := bx1 HX7a.out; have HG8a := Lib.hid ((HGp.out.on (mono_s d) hb7da.out).on (mono_s d) (below_new w7a (.cells #[x1a, x2a, x3a] 27))); have hs7a : wp.heap.size ≤ w7a.heap.size := hb7da.out.size; have hgla : w.heap.size + 3 < w7a.heap.size := Nat.lt_of_lt_of_le hsp hs7a)
              | fail)
          all_goals
            obtain ⟨Z1a, Z2a⟩ := cell1 hX8a.out (.slice (some ⟨g8a, 0, none⟩) ((P ++ [s]).length + 1) cap8a)
            have hnewa := (Grow.app (mono_s d) HG8a.out (a := a) (b' := wp.heap.size) (by omega) (fun k hk => HGp.out.lt k hk) (mono_s d (Ow.hi (hi_below _ (below_new w7a (.cells #[x1a, x2a, x3a] 27)))) _ _ ho7a) hown8a hg8a (hat8a.imp id fun h => by rw [h]; simp)).box (mono_s d) Z2a (Nat.lt_succ_self (w.heap.size + 3))
            have hbza : Below (w.heap.size + 3) wp _ := ((hb7da.out.mono (by omega)).trans ((below_new w7a (.cells #[x1a, x2a, x3a] 27)).mono (by omega))).trans ((below_row hg8a HG8a.out.own (Nat.le_succ _) (by simp; omega)).trans (below_own Z2a (Nat.le_refl _) (by have := hg8a.size; simp at this; omega)))
            rw [HPL.out] at Z1a hnewa hbza
            go_wp2
            exact ⟨⟨k + 1, true, (P ++ [s]) ++ [a], _, _, rfl, by go_num, by omega, by rw [List.append_assoc, List.append_assoc, List.singleton_append, List.singleton_append, ← HP.out]; exact HQ.out, Z1a, hnewa, HBp.out.trans hbza, by have h1 := hbza.size; simp at h1 ⊢; omega⟩, by simp [intOf]; omega⟩
        · have HP := Lib.hid (setR_pass HA.out he h2)
          by_cases h3 : s.no < a.no
          · obtain rfl : bd = true := by
              cases bd with
              | true => rfl
              | false => exact absurd ⟨h3, rfl⟩ h2
            have h4 : decide (s.no < a.no) = true := decide_eq_true h3
            clear h2 h3
            go_wp2_with fail
            apply onceS
            · intro HGO
              first | go_region_law (fail) | fail
              all_goals exact HGO.out
            go_wp2_with fail
            apply onceS
            · intro HGO
              first | go_region_law (fail) | fail
              all_goals exact HGO.out
            obtain ⟨wq, hwq⟩ : ∃ W, W = wr.drew.drew := ⟨_, rfl⟩
            have hbq : Below wr.heap.size wr wq := by rw [hwq]; exact (Below.refl _ _).drew.drew
            rw [← hwq]
            clear hwq
            have k0 := cell_on hbq k0
            have s0 := cell_on hbq s0
            have s1 := cell_on hbq s1
            have s2 := cell_on hbq s2
            have c0 := cell_on hbq c0
            have c1 := cell_on hbq c1
            have c2 := cell_on hbq c2
            have HXq := Lib.hid (box_on HX.out hbq)
            have g0 := bx1 HXq.out
            have HGq := Lib.hid (HGX.out.on (mono_s d) hbq)
            have HBq := Lib.hid (HBX.out.trans (hbq.mono (by omega)))
            have hsq : w.heap.size + 4 ≤ wq.heap.size := Nat.le_trans hsx hbq.size
            have hlq : Lo B w wq := HLO.out.trans (Lo.of (hbq.mono hBw))
            have HCq := Lib.hid (SRd.low (Lo.of (hbq.mono hBw)) HCC.out)
            have hBq : B ≤ wq.heap.size := Nat.le_trans hBw hbq.size
            have hDa : Below wq.heap.size wq wq.drew := (Below.refl _ _).drew
            have HCXa := Lib.hid (rslot_any (rown_any B d) a _ _ wq.drew hBq (SRd.low (Lo.below hDa hBq) HCq.out) (by omega) wq.heap.size (Nat.le_refl _))
            clear hm1 hm2 hm3 he hbq hlq
            go_wp2_with fail
            go_region_law
              (first
                | (refine step_append_lies _ rfl _ _ 22 rfl (w.heap.size + 4) 27 i0 _ 3 56 Try.underlying22 hi hz0 hz1 hz2 rfl (by decide) v P.length zs (by simp [Act.eval, Act.put]) HG8a.out.own ⟨w7a.heap.size, 0, none⟩ 1 1 [x1a, x2a, x3a] (by simp [Act.eval, Act.put]) rfl (World.news_of_block (heap_alloc_new _ _)) (sAt.oneO _ _ ho7a) (by decide) (by unfold maxLen; omega) (by omega) (by simp; omega) w7a.heap.size.succ (by simp) ?_; intro g8a cap8a w8a hown8a hg8a hat8a hlt8a; have hX8a := Lib.hid (box_far (box_on HX7a.out (below_new w7a (.cells #[x1a, x2a, x3a] 27))) hg8a HG8a.out.own (Nat.lt_succ_self (w.heap.size + 3))); have f8a : w8a.frozen? ⟨w.heap.size + 3, 0, none⟩ = false := (by simp [World.frozen?, hX8a.out]); have c8a := bx1 hX8a.out)
                | (go_simp; refine HCXa.out.mono ?_; rintro e w7a ⟨x1a, x2a, x3a, rfl, ho7a, hb7a⟩; have hb7da := Lib.hid (hDa.trans hb7a); have HX7a := Lib.hid (box_on HXq.out hb7da.out); have c7a := bx1 HX7a.out; have HG8a := Lib.hid ((HGq.out.on (mono_s d) hb7da.out).on (mono_s d) (below_new w7a (.cells #[x1a, x2a, x3a] 27))); have hs7a : wq.heap.size ≤ w7a.heap.size := hb7da.out.size; have hgla : w.heap.size + 3 < w7a.heap.size := Nat.lt_of_lt_of_le hsq hs7a)
                | fail)
            all_goals
              obtain ⟨Z1a, Z2a⟩ := cell1 hX8a.out (.slice (some ⟨g8a, 0, none⟩) (P.length + 1) cap8a)
              have hnewa := (Grow.app (mono_s d) HG8a.out (a := a) (b' := wq.heap.size) (by omega) (fun k hk => HGq.out.lt k hk) (mono_s d (Ow.hi (hi_below _ (below_new w7a (.cells #[x1a, x2a, x3a] 27)))) _ _ ho7a) hown8a hg8a (hat8a.imp id fun h => by rw [h]; simp)).box (mono_s d) Z2a (Nat.lt_succ_self (w.heap.size + 3))
              have hbza : Below (w.heap.size + 3) wq _ := ((hb7da.out.mono (by omega)).trans ((below_new w7a (.cells #[x1a, x2a, x3a] 27)).mono (by omega))).trans ((below_row hg8a HG8a.out.own (Nat.le_succ _) (by simp; omega)).trans (below_own Z2a (Nat.le_refl _) (by have := hg8a.size; simp at this; omega)))
              go_wp2
              exact ⟨⟨k + 1, true, P ++ [a], _, _, rfl, by go_num, by omega, by rw [List.append_assoc, List.singleton_append, ← HP.out]; exact HQ.out, Z1a, hnewa, HBq.out.trans hbza, by have h1 := hbza.size; simp at h1 ⊢; omega⟩, by simp [intOf]; omega⟩
          · have H4 := Lib.hid (decide_eq_false h3)
            clear h2 h3
            go_wp2_with fail
            apply onceS
            · intro HGO
              first | go_region_law (fail) | fail
              all_goals exact HGO.out
            go_wp2_with fail
            have h4 := H4.out
            apply onceS
            · intro HGO
              first | go_region_law (fail) | fail
              all_goals exact HGO.out
            obtain ⟨wq, hwq⟩ : ∃ W, W = wr.drew.drew := ⟨_, rfl⟩
            have hbq : Below wr.heap.size wr wq := by rw [hwq]; exact (Below.refl _ _).drew.drew
            rw [← hwq]
            clear hwq
            have k0 := cell_on hbq k0
            have s0 := cell_on hbq s0
            have s1 := cell_on hbq s1
            have s2 := cell_on hbq s2
            have c0 := cell_on hbq c0
            have c1 := cell_on hbq c1
            have c2 := cell_on hbq c2
            have HXq := Lib.hid (box_on HX.out hbq)
            have g0 := bx1 HXq.out
            have HGq := Lib.hid (HGX.out.on (mono_s d) hbq)
            have HBq := Lib.hid (HBX.out.trans (hbq.mono (by omega)))
            have hsq : w.heap.size + 4 ≤ wq.heap.size := Nat.le_trans hsx hbq.size
            have hlq : Lo B w wq := HLO.out.trans (Lo.of (hbq.mono hBw))
            have HCq := Lib.hid (SRd.low (Lo.of (hbq.mono hBw)) HCC.out)
            have hBq : B ≤ wq.heap.size := Nat.le_trans hBw hbq.size
            have hDa : Below wq.heap.size wq wq.drew := (Below.refl _ _).drew
            have HCXa := Lib.hid (rslot_any (rown_any B d) a _ _ wq.drew hBq (SRd.low (Lo.below hDa hBq) HCq.out) (by omega) wq.heap.size (Nat.le_refl _))
            clear hm1 hm2 hm3 he hbq hlq
            go_wp2_with fail
            go_region_law
              (first
                | (refine step_append_lies _ rfl _ _ 22 rfl (w.heap.size + 4) 27 i0 _ 3 56 Try.underlying22 hi hz0 hz1 hz2 rfl (by decide) v P.length zs (by simp [Act.eval, Act.put]) HG8a.out.own ⟨w7a.heap.size, 0, none⟩ 1 1 [x1a, x2a, x3a] (by simp [Act.eval, Act.put]) rfl (World.news_of_block (heap_alloc_new _ _)) (sAt.oneO _ _ ho7a) (by decide) (by unfold maxLen; omega) (by omega) (by simp; omega) w7a.heap.size.succ (by simp) ?_; intro g8a cap8a w8a hown8a hg8a hat8a hlt8a; have hX8a := Lib.hid (box_far (box_on HX7a.out (below_new w7a (.cells #[x1a, x2a, x3a] 27))) hg8a HG8a.out.own (Nat.lt_succ_self (w.heap.size + 3))); have f8a : w8a.frozen? ⟨w.heap.size + 3, 0, none⟩ = false := (by simp [World.frozen?, hX8a.out]); have c8a := bx1 hX8a.out)
                | (go_simp; refine HCXa.out.mono ?_; rintro e w7a ⟨x1a, x2a, x3a, rfl, ho7a, hb7a⟩; have hb7da := Lib.hid (hDa.trans hb7a); have HX7a := Lib.hid (box_on HXq.out hb7da.out); have c7a := bx1 HX7a.out; have HG8a := Lib.hid ((HGq.out.on (mono_s d) hb7da.out).on (mono_s d) (below_new w7a (.cells #[x1a, x2a, x3a] 27))); have hs7a : wq.heap.size ≤ w7a.heap.size := hb7da.out.size; have hgla : w.heap.size + 3 < w7a.heap.size := Nat.lt_of_lt_of_le hsq hs7a)
                | fail)
            all_goals
              obtain ⟨Z1a, Z2a⟩ := cell1 hX8a.out (.slice (some ⟨g8a, 0, none⟩) (P.length + 1) cap8a)
              have hnewa := (Grow.app (mono_s d) HG8a.out (a := a) (b' := wq.heap.size) (by omega) (fun k hk => HGq.out.lt k hk) (mono_s d (Ow.hi (hi_below _ (below_new w7a (.cells #[x1a, x2a, x3a] 27)))) _ _ ho7a) hown8a hg8a (hat8a.imp id fun h => by rw [h]; simp)).box (mono_s d) Z2a (Nat.lt_succ_self (w.heap.size + 3))
              have hbza : Below (w.heap.size + 3) wq _ := ((hb7da.out.mono (by omega)).trans ((below_new w7a (.cells #[x1a, x2a, x3a] 27)).mono (by omega))).trans ((below_row hg8a HG8a.out.own (Nat.le_succ _) (by simp; omega)).trans (below_own Z2a (Nat.le_refl _) (by have := hg8a.size; simp at this; omega)))
              go_wp2
              exact ⟨⟨k + 1, bd, P ++ [a], _, _, rfl, by go_num, by omega, by rw [List.append_assoc, List.singleton_append, ← HP.out]; exact HQ.out, Z1a, hnewa, HBq.out.trans hbza, by have h1 := hbza.size; simp at h1 ⊢; omega⟩, by simp [intOf]; omega⟩
    · obtain rfl : k = m.F.length := by omega
      have r0 := bx1 hm3
      have r1 : wr.frozen? ⟨w.heap.size + 2, 0, none⟩ = false := by simp [World.frozen?, hm3]
      rw [List.drop_length] at HQ
      cases bd with
      | true =>
        have hgx2 := HGX.out
        rw [show P = (setM m s).F by rw [← HQ.out]; simp [setR]] at hgx2
        obtain ⟨Av, cv, rfl, -⟩ := Sl.of_own hgx2.own
        clear hm1 hm2 s0 s1 s2 hlo HQ
        go_wp2
        obtain ⟨Z1, Z2⟩ := cell1 hm3 (.slice Av (setM m s).F.length cv)
        refine bodyPost_ret (results_cell_row rfl _ _ (w.heap.size + 2) _ _ (0, 0) _ rfl Z1 Try.underlying24 rfl sz_msg) rfl ?_
        exact ⟨_, _, rfl, (hgx2.box (mono_s d) Z2 (show w.heap.size + 2 < w.heap.size + 4 by omega)).less (mono_s d) (by omega), (L4.trans (HBX.out.mono (by omega))).trans (below_own Z2 (by omega) (by omega))⟩
      | false =>
        have hD : Below wr.heap.size wr wr.drew := (Below.refl _ _).drew
        have HCX := Lib.hid (rslot_any (rown_any B d) s _ _ wr.drew hBw (SRd.low (Lo.below hD hBw) (SRd.low hlo HSL.out)) (by omega) wr.heap.size (Nat.le_refl _))
        have hDa := hD
        have HQ2 := Lib.hid (show P ++ [s] = (setM m s).F by rw [← HQ.out]; simp [setR])
        have HM3 := Lib.hid hm3
        clear hm1 hm2 hm3 hlo HQ r0 r1
        go_wp2_with fail
        go_region_law
          (first
            | (refine step_append_lies _ rfl _ _ 22 rfl (w.heap.size + 4) 27 i0 _ 3 56 Try.underlying22 hi hz0 hz1 hz2 rfl (by decide) v P.length zs (by simp [Act.eval, Act.put]) HG8a.out.own ⟨w7a.heap.size, 0, none⟩ 1 1 [x1a, x2a, x3a] (by simp [Act.eval, Act.put]) rfl (World.news_of_block (heap_alloc_new _ _)) (sAt.oneO _ _ ho7a) (by decide) (by unfold maxLen; omega) (by omega) (by simp; omega) w7a.heap.size.succ (by simp) ?_; intro g8a cap8a w8a hown8a hg8a hat8a hlt8a; have hX8a := Lib.hid (box_far (box_on HX7a.out (below_new w7a (.cells #[x1a, x2a, x3a] 27))) hg8a HG8a.out.own (Nat.lt_succ_self (w.heap.size + 3))); have f8a : w8a.frozen? ⟨w.heap.size + 3, 0, none⟩ = false := (by simp [World.frozen?, hX8a.out]); have c8a := bx1 hX8a.out)
            | (go_simp; refine HCX.out.mono ?_; rintro e w7a ⟨x1a, x2a, x3a, rfl, ho7a, hb7a⟩; have hb7da := Lib.hid (hDa.trans hb7a); have HX7a := Lib.hid (box_on HX.out hb7da.out); have c7a := bx1 HX7a.out; have HG8a := Lib.hid ((HGX.out.on (mono_s d) hb7da.out).on (mono_s d) (below_new w7a (.cells #[x1a, x2a, x3a] 27))); have hs7a : wr.heap.size ≤ w7a.heap.size := hb7da.out.size; have hgla : w.heap.size + 3 < w7a.heap.size := Nat.lt_of_lt_of_le hsx hs7a)
            | fail)
        all_goals
          obtain ⟨Z1a, Z2a⟩ := cell1 hX8a.out (.slice (some ⟨g8a, 0, none⟩) (P.length + 1) cap8a)
          have hnewa := (Grow.app (mono_s d) HG8a.out (a := s) (b' := wr.heap.size) (by omega) (fun k hk => HGX.out.lt k hk) (mono_s d (Ow.hi (hi_below _ (below_new w7a (.cells #[x1a, x2a, x3a] 27)))) _ _ ho7a) hown8a hg8a (hat8a.imp id fun h => by rw [h]; simp)).box (mono_s d) Z2a (Nat.lt_succ_self (w.heap.size + 3))
          have hbza : Below (w.heap.size + 3) wr _ := ((hb7da.out.mono (by omega)).trans ((below_new w7a (.cells #[x1a, x2a, x3a] 27)).mono (by omega))).trans ((below_row hg8a HG8a.out.own (Nat.le_succ _) (by simp; omega)).trans (below_own Z2a (Nat.le_refl _) (by have := hg8a.size; simp at this; omega)))
          have hm3z := (hbza.block _ (show w.heap.size + 2 < w.heap.size + 3 by omega)).trans HM3.out
          have r0 := bx1 hm3z
          have r1 : (w8a.setCell ⟨w.heap.size + 3, 0, none⟩ (.slice (some ⟨g8a, 0, none⟩) (P.length + 1) cap8a)).frozen? ⟨w.heap.size + 2, 0, none⟩ = false := by simp only [World.frozen?, hm3z]; rfl
          have g0z := bx1 Z1a
          go_wp2
          obtain ⟨Z1, Z2⟩ := cell1 hm3z (.slice (some ⟨g8a, 0, none⟩) (P.length + 1) cap8a)
          refine bodyPost_ret (results_cell_row rfl _ _ (w.heap.size + 2) _ _ (0, 0) _ rfl Z1 Try.underlying24 rfl sz_msg) rfl ?_
          rw [HQ2.out] at hnewa
          exact ⟨_, _, rfl, (hnewa.box (mono_s d) Z2 (show w.heap.size + 2 < w.heap.size + 4 by omega)).less (mono_s d) (by omega), (L4.trans ((HBX.out.trans hbza).mono (by omega))).trans (below_own Z2 (by omega) (by have h1 := hbza.size; simp at h1 ⊢; omega))⟩
end Go.Proofs.Ytjmcpfckcajnjaa.T9
