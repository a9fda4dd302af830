/-
  How many bytes all texts have: the law's own texts.
-/
import Derived.Test.YtipaangiehdgkaaGreatDoorEncNor
import Derived.Test.YtipaangiehdgkaaGreatDoorTabFacts
import Derived.Test.YtipaangiehdgkaaGreatDoorTrIn
import Derived.Deep.RegionHeldLaw
import Derived.Deep.RegionLaw
import Derived.Deep.RegionHeld3
import Derived.Lib.AppendZeros
namespace Go.Proofs.YtipaangiehdgkaaGreatDoor.T12
set_option maxRecDepth 100000

open Go.RowKit

open Go.Proofs.YtipaangiehdgkaaGreatDoor.T9

theorem step_app_sl {P : Program} {w : World} {ops : Array Oper} {o : Oper} {a : Act} {K : Act → World → Prop} {Q : Exit → Act → World → Prop} {E : Prop}
    (hg : o.guard = none) (s x : Operand) (t : TypeId) (hop : o.op = .call { callee := .builtin .append, args := #[s, x], argTypes := #[t, t] })
    (base : Nat) (e : TypeId) (i : TypeInfo) (z : Value) (size bytes : Nat) (ht : P.underlying t = some (.slice e)) (hi : P.info? e = some i) (hz : i.zero = some z)
    (hsize : i.size = size) (hby : i.bytes = bytes) (hzs : z.cells.size = size) (hsz : 0 < size)
    (v : Value) (n : Nat) (xs : List Value) (hs : a.eval s = v) (hown : w.ownsRow base e size v n xs)
    (A : Option Addr) (m c : Nat) (news : List Value) (hx : a.eval x = .slice A m c) (hr : Sl w A m c size news) (h1 : ∀ u ∈ news, u.oneCell' = true)
    (h63 : n + m ≤ maxLen) (hbytes : (n + m) * bytes ≤ 140737488355328) (hbase : base ≤ w.heap.size)
    (h : ∀ v' w', w'.ownsRow base e size v' (n + m) (xs ++ news) → w.grownBy w' v.ownBlock → K (a.put o.dst v') w') :
    if Region.wanted o (yielded ops a.tmps) = true then Oper.wp P o a w K Q else E := by
  have key : ∃ v' w', (Builtin.append_ #[t, t] o.type #[v, .slice A m c]).run P w = .ok v' w' ∧ w'.ownsRow base e size v' (n + m) (xs ++ news) ∧ w.grownBy w' v.ownBlock := by
    cases A with
    | none =>
      obtain ⟨rfl, rfl, rfl⟩ := hr.none_len
      exact ⟨v, w, run_append_owned_none (P := P) w base t o.type e i size ht hi v n xs hown, by simpa using hown, World.grownBy.refl w _⟩
    | some ad =>
      obtain ⟨v', w', hrun, h2, h3, _⟩ := run_append_own (P := P) w base t o.type e i z size bytes ht hi hz hsize hby hzs hsz v n xs hown ad m c news hr.len (hr.cell ad rfl) h1 h63 hbytes hbase
      exact ⟨v', w', hrun, h2, h3⟩
  obtain ⟨v', w', hrun, h2, h3⟩ := key
  have hw : Region.wanted o (yielded ops a.tmps) = true := by simp [Region.wanted, hg]
  rw [if_pos hw]
  have hex : (execOp a.eval o).run P w = .ok (.value v') w' := by simp [execOp, hop, resolve, invoke, builtin, hs, hx, hrun, Result.andThen]
  unfold Oper.wp
  rw [hex]
  exact h v' w' h2 h3
def g12 (v : Vl') : Nat := sm (v.M.map Mg.txt)
theorem tV_g (v : Vl') : tV v = v.s.length + g12 v := rfl
theorem tS_split (s : So) : tS s = sm ((s.K ++ s.V).map tV) := by
  unfold tS
  rw [← sm_append, ← List.map_append]
theorem cnt_in {m : Mg} {s : So} {v : Vl'} {x : Mg} (hs : s ∈ m.F) (hv : v ∈ s.K ++ s.V) (hx : x ∈ v.M) : x.cnt ≤ m.cnt := by
  have h1 := cS_le hs
  have h2 := cV_le (List.mem_append.1 hv)
  have h3 := cnt_le hx
  omega
theorem txt_mem {m : Mg} {s : So} {v : Vl'} {x : Mg} (hs : s ∈ m.F) (hv : v ∈ s.K ++ s.V) (hx : x ∈ v.M) : Mg.txt x ≤ Mg.txt m := by
  have h1 := sm_mem (g := tS) hs
  have h2 := sm_mem (g := tV) hv
  have h3 := sm_mem (g := Mg.txt) hx
  rw [Mg.txt_eq m]
  rw [tS_split] at h1
  rw [tV_g] at h2
  unfold g12 at h2
  omega
/-- texts, of messages within so many levels. -/
def TxtH (B D : Nat) : Prop := ∀ (m : Mg) (u : Value) (w : World), B ≤ w.heap.size → MRd B w D m u → m.cnt ≤ 100000 → Mg.txt m ≤ 4611686018427387904 → Calls Tryz.prog 26 #[.agg #[u]] w fun e w' => e = .returned (.int .i64 (Mg.txt m : Nat)) ∧ Below w.heap.size w w'
set_option maxRecDepth 1000000 in
set_option maxHeartbeats 8000000 in
theorem txt_step {B D : Nat} (H : TxtH B D) : TxtH B (D + 1) := by
  rintro m u w hB ⟨u', hu, hl⟩ hcm htm
  simp only [List.cons.injEq, and_true] at hu
  subst hu
  obtain ⟨i0, hi, hz0, hz1, hz2⟩ := info_parts info_val
  obtain ⟨A, c, xs, rfl, hs, hbl, hr, hn⟩ := hl.open_
  have X1 := heap_alloc_new w (.cells #[.slice A m.F.length c] 36)
  have LBD := below_new w (.cells #[.slice A m.F.length c] 36)
  have HS := Lib.hid hs
  have HR := Lib.hid hr
  have HBB := Lib.hid hbl
  have HH := Lib.hid H
  have HTM := Lib.hid htm
  clear hs hr hl hbl H
  go_enter Tryz.func26, Tryz.ntmps26
  go_wp2
  obtain ⟨W0, hW0⟩ : ∃ W, W = w.alloc (.cells #[.slice A m.F.length c] 36) := ⟨_, rfl⟩
  rw [← hW0] at X1 LBD ⊢
  have hX := box_lt X1
  clear hW0
  have hsz : sm (m.F.map tS) ≤ 4611686018427387904 := by rw [← Mg.txt_eq]; exact htm
  go_loopw [3, 4, 5, 6, 7] (fun n i l k j wr => ∃ p : Nat, i = .int .i64 p ∧ p ≤ m.F.length ∧ n = .int .i64 ((sm ((m.F.take p).map tS) : Nat) : Int) ∧ Below W0.heap.size W0 wr) (fun _ i _ _ _ _ => m.F.length - (intOf i).toNat)
  case atStart => exact ⟨0, rfl, by omega, rfl, Below.refl _ _⟩
  case round =>
    obtain ⟨p, rfl, hp, rfl, hbw⟩ := hrel
    have g0 := bx1 (box_on X1 hbw)
    have HBW := Lib.hid (LBD.trans (hbw.mono LBD.size))
    by_cases hlt : p < m.F.length
    · obtain ⟨s, hs⟩ : ∃ s, m.F[p]? = some s := ⟨_, List.getElem?_eq_getElem hlt⟩
      obtain ⟨ad, x, y, z, rfl, hga, hcc, c0, c1, c2⟩ := row3 sAt.len (sl_low HS.out HBB.out (Lo.below HBW.out hB)) (HR.out.imp fun a cs h => SRd.low (Lo.below HBW.out hB) h) hs
      obtain ⟨u1, u2, hu, hlk, hlv⟩ := hcc
      simp only [List.cons.injEq, and_true] at hu
      obtain ⟨rfl, rfl, rfl⟩ := hu
      obtain ⟨AK, cK, xsK, rfl, hsK, hbK, hrK, hnK⟩ := hlk.open_
      obtain ⟨AV, cV_, xsV, rfl, hsV, hbV, hrV, hnV⟩ := hlv.open_
      have hadB : ad.block < B := HBB.out ad rfl (by omega)
      have hadX : (ad.add (p * 3)).block < W0.heap.size := by rw [add_same_block]; omega
      have hcs := cS_le (List.mem_of_getElem? hs)
      have hcl := cS_len (s := s)
      have h11 := Rows.one vAt.one hrK
      have h12_ := Rows.one vAt.one hrV
      have HSK := Lib.hid hsK
      have HSV := Lib.hid hsV
      have HRK := Lib.hid (And.intro hrK hrV)
      have HBK := Lib.hid (And.intro hbK hbV)
      have hst := sm_take_next tS hs
      have hle := sm_take_le m.F (p + 1) tS
      rw [tS_split] at hst
      have HCN := Lib.hid (fun v x (hv : v ∈ s.K ++ s.V) (hx : x ∈ v.M) => Nat.le_trans (cnt_in (List.mem_of_getElem? hs) hv hx) hcm)
      have HTN := Lib.hid (fun v x (hv : v ∈ s.K ++ s.V) (hx : x ∈ v.M) => Nat.le_trans (txt_mem (List.mem_of_getElem? hs) hv hx) HTM.out)
      obtain ⟨N, hN⟩ : ∃ N, N = sm ((m.F.take p).map tS) := ⟨_, rfl⟩
      have hN' : sm (List.take p (List.map tS m.F)) = N := by rw [hN, List.map_take]
      rw [← hN] at hst
      (try rw [hN']); (try rw [← hN])
      have i1 : (0 : Int) ≤ (p : Int) := by omega
      have i2 : (p : Int) < (m.F.length : Int) := by omega
      clear hN hN' hlk hlv hs hsK hbK hrK hsV hbV hrV c0
      go_wp2_with fail
      refine wp_region_held_drew (S := (fun w' => w'.cell? ⟨w.heap.size, 0, none⟩ = some (.slice (some ad) m.F.length c) ∧ w'.cell? ⟨(ad.add (p * 3)).block, (ad.add (p * 3)).off + 1, none⟩ = some (.slice AK s.K.length cK) ∧ w'.cell? ⟨(ad.add (p * 3)).block, (ad.add (p * 3)).off + 2, none⟩ = some (.slice AV s.V.length cV_))) (by kernel_rfl) (⟨g0, c1, c2⟩) (fun hHeld => ?_)
      refine wpAnyH_take (i := 0) (oi := { dst := some 15, op := Go.Op.fieldAddr 36 (Go.Operand.tmp 1) 0, type := 0, pos := "law.go:33", after := #[], guard := none }) (v := ?_) rfl (by kernel_rfl) (by kernel_rfl) (by kernel_rfl) (fun _ _ _ h => h) (Or.inl ⟨by rfl, ?_⟩) hHeld ?_
      rotate_left
      · intro w hSw
        (try dsimp only at hSw)
        go_simp
        all_goals with_reducible rfl
      (try simp only [Act.put, List.setIfInBounds_toArray, List.set_cons_zero, List.set_cons_succ])
      refine wpAnyH_take (i := 1) (oi := { dst := some 16, op := Go.Op.load 34 (Go.Operand.tmp 15), type := 34, pos := "law.go:33", after := #[{ on := 0, ground := Go.Ground.data }], guard := none }) (v := ?_) rfl (by kernel_rfl) (by kernel_rfl) (by kernel_rfl) (fun _ _ _ h => h) (Or.inl ⟨by rfl, ?_⟩) hHeld ?_
      rotate_left
      · intro w hSw
        (try dsimp only at hSw)
        go_simp
        all_goals with_reducible rfl
      (try simp only [Act.put, List.setIfInBounds_toArray, List.set_cons_zero, List.set_cons_succ])
      refine wpAnyH_take (i := 2) (oi := { dst := some 17, op := Go.Op.move (Go.Operand.tmp 4), type := 3, pos := "law.go:33", after := #[], guard := none }) (v := ?_) rfl (by kernel_rfl) (by kernel_rfl) (by kernel_rfl) (fun _ _ _ h => h) (Or.inl ⟨by rfl, ?_⟩) hHeld ?_
      rotate_left
      · intro w hSw
        (try dsimp only at hSw)
        go_simp
        all_goals with_reducible rfl
      (try simp only [Act.put, List.setIfInBounds_toArray, List.set_cons_zero, List.set_cons_succ])
      refine wpAnyH_take (i := 3) (oi := { dst := some 18, op := Go.Op.indexAddr 34 (Go.Operand.tmp 16) (Go.Operand.tmp 17), type := 0, pos := "law.go:33", after := #[{ on := 1, ground := Go.Ground.data }, { on := 2, ground := Go.Ground.data }], guard := none }) (v := ?_) rfl (by kernel_rfl) (by kernel_rfl) (by kernel_rfl) (fun _ _ _ h => h) (Or.inl ⟨by rfl, ?_⟩) hHeld ?_
      rotate_left
      · intro w hSw
        (try dsimp only at hSw)
        go_simp
        all_goals with_reducible rfl
      (try simp only [Act.put, List.setIfInBounds_toArray, List.set_cons_zero, List.set_cons_succ])
      refine wpAnyH_take (i := 4) (oi := { dst := some 19, op := Go.Op.fieldAddr 48 (Go.Operand.tmp 18) 1, type := 0, pos := "law.go:33", after := #[{ on := 3, ground := Go.Ground.data }], guard := none }) (v := ?_) rfl (by kernel_rfl) (by kernel_rfl) (by kernel_rfl) (fun _ _ _ h => h) (Or.inl ⟨by rfl, ?_⟩) hHeld ?_
      rotate_left
      · intro w hSw
        (try dsimp only at hSw)
        go_simp
        all_goals with_reducible rfl
      (try simp only [Act.put, List.setIfInBounds_toArray, List.set_cons_zero, List.set_cons_succ])
      refine wpAnyH_take (i := 5) (oi := { dst := some 20, op := Go.Op.load 46 (Go.Operand.tmp 19), type := 46, pos := "law.go:33", after := #[{ on := 4, ground := Go.Ground.data }], guard := none }) (v := ?_) rfl (by kernel_rfl) (by kernel_rfl) (by kernel_rfl) (fun _ _ _ h => h) (Or.inl ⟨by rfl, ?_⟩) hHeld ?_
      rotate_left
      · intro w hSw
        (try dsimp only at hSw)
        go_simp
        all_goals with_reducible rfl
      (try simp only [Act.put, List.setIfInBounds_toArray, List.set_cons_zero, List.set_cons_succ])
      refine wpAnyH_take (i := 7) (oi := { dst := some 22, op := Go.Op.fieldAddr 36 (Go.Operand.tmp 1) 0, type := 0, pos := "law.go:33", after := #[], guard := none }) (v := ?_) rfl (by kernel_rfl) (by kernel_rfl) (by kernel_rfl) (fun _ _ _ h => h) (Or.inl ⟨by rfl, ?_⟩) hHeld ?_
      rotate_left
      · intro w hSw
        (try dsimp only at hSw)
        go_simp
        all_goals with_reducible rfl
      (try simp only [Act.put, List.setIfInBounds_toArray, List.set_cons_zero, List.set_cons_succ])
      refine wpAnyH_take (i := 8) (oi := { dst := some 23, op := Go.Op.load 34 (Go.Operand.tmp 22), type := 34, pos := "law.go:33", after := #[{ on := 7, ground := Go.Ground.data }], guard := none }) (v := ?_) rfl (by kernel_rfl) (by kernel_rfl) (by kernel_rfl) (fun _ _ _ h => h) (Or.inl ⟨by rfl, ?_⟩) hHeld ?_
      rotate_left
      · intro w hSw
        (try dsimp only at hSw)
        go_simp
        all_goals with_reducible rfl
      (try simp only [Act.put, List.setIfInBounds_toArray, List.set_cons_zero, List.set_cons_succ])
      refine wpAnyH_take (i := 9) (oi := { dst := some 24, op := Go.Op.move (Go.Operand.tmp 4), type := 3, pos := "law.go:33", after := #[], guard := none }) (v := ?_) rfl (by kernel_rfl) (by kernel_rfl) (by kernel_rfl) (fun _ _ _ h => h) (Or.inl ⟨by rfl, ?_⟩) hHeld ?_
      rotate_left
      · intro w hSw
        (try dsimp only at hSw)
        go_simp
        all_goals with_reducible rfl
      (try simp only [Act.put, List.setIfInBounds_toArray, List.set_cons_zero, List.set_cons_succ])
      refine wpAnyH_take (i := 10) (oi := { dst := some 25, op := Go.Op.indexAddr 34 (Go.Operand.tmp 23) (Go.Operand.tmp 24), type := 0, pos := "law.go:33", after := #[{ on := 8, ground := Go.Ground.data }, { on := 9, ground := Go.Ground.data }], guard := none }) (v := ?_) rfl (by kernel_rfl) (by kernel_rfl) (by kernel_rfl) (fun _ _ _ h => h) (Or.inl ⟨by rfl, ?_⟩) hHeld ?_
      rotate_left
      · intro w hSw
        (try dsimp only at hSw)
        go_simp
        all_goals with_reducible rfl
      (try simp only [Act.put, List.setIfInBounds_toArray, List.set_cons_zero, List.set_cons_succ])
      refine wpAnyH_take (i := 11) (oi := { dst := some 26, op := Go.Op.fieldAddr 48 (Go.Operand.tmp 25) 2, type := 0, pos := "law.go:33", after := #[{ on := 10, ground := Go.Ground.data }], guard := none }) (v := ?_) rfl (by kernel_rfl) (by kernel_rfl) (by kernel_rfl) (fun _ _ _ h => h) (Or.inl ⟨by rfl, ?_⟩) hHeld ?_
      rotate_left
      · intro w hSw
        (try dsimp only at hSw)
        go_simp
        all_goals with_reducible rfl
      (try simp only [Act.put, List.setIfInBounds_toArray, List.set_cons_zero, List.set_cons_succ])
      refine wpAnyH_take (i := 12) (oi := { dst := some 27, op := Go.Op.load 46 (Go.Operand.tmp 26), type := 46, pos := "law.go:33", after := #[{ on := 11, ground := Go.Ground.data }], guard := none }) (v := ?_) rfl (by kernel_rfl) (by kernel_rfl) (by kernel_rfl) (fun _ _ _ h => h) (Or.inl ⟨by rfl, ?_⟩) hHeld ?_
      rotate_left
      · intro w hSw
        (try dsimp only at hSw)
        go_simp
        all_goals with_reducible rfl
      (try simp only [Act.put, List.setIfInBounds_toArray, List.set_cons_zero, List.set_cons_succ])
      refine wpAnyH_ready (rs := [6]) (by kernel_rfl) (by simp) ?_
      refine AllReadyH.cons (o := { dst := some 21, op := Go.Op.call { callee := Go.Callee.builtin Go.Builtin.append, args := #[Go.Operand.const (Go.Value.slice none 0 0), Go.Operand.tmp 20], argTypes := #[46, 46] }, type := 46, pos := "law.go:33", after := #[{ on := 5, ground := Go.Ground.data }], guard := none }) rfl (fun K hK => ?_) AllReadyH.nil
      refine step_app_sl rfl _ _ 46 rfl W0.heap.size 51 i0 (.agg #[.int .i64 0, .string ⟨#[]⟩, .slice none 0 0]) 3 48 Tryz.underlying46 hi hz0 hz1 hz2 rfl (by omega) (.slice none 0 0) 0 [] (by simp [Act.eval, Act.put]) (World.ownsRow_nil _ _ _ _) AK s.K.length cK xsK (by simp [Act.eval, Act.put]) (HSK.out.on ((Below.refl _ _).drew)) h11 (by unfold maxLen; omega) (by omega) hbw.size ?_
      intro v2 w2 hown2 hg2
      rw [Nat.zero_add] at hown2
      have hb2 : Below wr.heap.size wr w2 := ((Below.refl _ _).drew).trans ⟨hg2.os, hg2.tape, hg2.output, hg2.size, fun k hk => hg2.block k hk (by simp [Value.ownBlock])⟩
      have HV2 := Lib.hid (HSV.out.on hb2)
      refine hK.out _ _ (⟨cell_on hb2 g0, cell_on hb2 c1, cell_on hb2 c2⟩) (fun hHeld => ?_)
      clear hK K
      (try simp only [Act.put, List.setIfInBounds_toArray, List.set_cons_zero, List.set_cons_succ])
      refine wpAnyH_ready (rs := [13]) (by kernel_rfl) (by simp) ?_
      refine AllReadyH.cons (o := { dst := some 28, op := Go.Op.call { callee := Go.Callee.builtin Go.Builtin.append, args := #[Go.Operand.tmp 21, Go.Operand.tmp 27], argTypes := #[46, 46] }, type := 46, pos := "law.go:33", after := #[{ on := 6, ground := Go.Ground.data }, { on := 12, ground := Go.Ground.data }, { on := 6, ground := Go.Ground.chain }], guard := none }) rfl (fun K hK => ?_) AllReadyH.nil
      refine step_app_sl rfl _ _ 46 rfl W0.heap.size 51 i0 (.agg #[.int .i64 0, .string ⟨#[]⟩, .slice none 0 0]) 3 48 Tryz.underlying46 hi hz0 hz1 hz2 rfl (by omega) v2 s.K.length _ (by simp [Act.eval, Act.put]) hown2 AV s.V.length cV_ xsV (by simp [Act.eval, Act.put]) HV2.out h12_ (by unfold maxLen; omega) (by omega) (Nat.le_trans hbw.size hb2.size) ?_
      intro v3 w3 hown3 hg3
      have hb3 : Below W0.heap.size w2 w3 := below_app hown2 hg3 (Nat.le_trans hbw.size hb2.size)
      have k1 : w3.cell? ⟨w.heap.size, 0, none⟩ = some (.slice (some ad) m.F.length c) := (World.cell?_of_block (hb3.block _ hX)).trans (cell_on hb2 g0)
      have k2 := (World.cell?_of_block (a := ⟨(ad.add (p * 3)).block, (ad.add (p * 3)).off + 1, none⟩) (hb3.block _ hadX)).trans (cell_on hb2 c1)
      have k3 := (World.cell?_of_block (a := ⟨(ad.add (p * 3)).block, (ad.add (p * 3)).off + 2, none⟩) (hb3.block _ hadX)).trans (cell_on hb2 c2)
      refine hK.out _ _ (⟨k1, k2, k3⟩) (fun hHeld => ?_)
      clear hK K
      (try simp only [Act.put, List.setIfInBounds_toArray, List.set_cons_zero, List.set_cons_succ])
      refine wpAnyH_take (i := 14) (oi := { dst := some 5, op := Go.Op.assign (Go.Operand.tmp 28), type := 46, pos := "law.go:33", after := #[{ on := 13, ground := Go.Ground.data }, { on := 13, ground := Go.Ground.chain }, { on := 0, ground := Go.Ground.phase }, { on := 1, ground := Go.Ground.phase }, { on := 2, ground := Go.Ground.phase }, { on := 3, ground := Go.Ground.phase }, { on := 4, ground := Go.Ground.phase }, { on := 5, ground := Go.Ground.phase }, { on := 6, ground := Go.Ground.phase }, { on := 7, ground := Go.Ground.phase }, { on := 8, ground := Go.Ground.phase }, { on := 9, ground := Go.Ground.phase }, { on := 10, ground := Go.Ground.phase }, { on := 11, ground := Go.Ground.phase }, { on := 12, ground := Go.Ground.phase }, { on := 13, ground := Go.Ground.phase }], guard := none }) (v := ?_) rfl (by kernel_rfl) (by kernel_rfl) (by kernel_rfl) (fun _ _ _ h => h) (Or.inl ⟨by rfl, ?_⟩) hHeld ?_
      rotate_left
      · intro w hSw
        (try dsimp only at hSw)
        go_simp
        all_goals with_reducible rfl
      (try simp only [Act.put, List.setIfInBounds_toArray, List.set_cons_zero, List.set_cons_succ])
      refine wpAnyH_done (by kernel_rfl) ?_ _
      obtain ⟨L, hL⟩ : ∃ L, s.K ++ s.V = L := ⟨_, rfl⟩
      have HB2 := Lib.hid ((HBW.out.trans (hb2.mono HBW.out.size)).trans (hb3.mono LBD.size))
      have HB3 := Lib.hid ((hbw.trans (hb2.mono hbw.size)).trans hb3)
      have hLl : s.K.length + s.V.length = L.length := by rw [← hL, List.length_append]
      rw [hLl] at hown3
      have hr7 : T9.Rows (VAt (Rd B w3) D) L (xsK ++ xsV) := by
        rw [← hL]
        have hlo : Lo B wr w3 := (Lo.below hb2 (Nat.le_trans hB HBW.out.size)).trans (Lo.of (hb3.mono (Nat.le_trans hB LBD.size)))
        exact (HRK.out.1.imp fun a cs h => VRd.low hlo h).append (HRK.out.2.imp fun a cs h => VRd.low hlo h)
      rw [hL] at hst HCN HTN
      have HST := Lib.hid hst
      have hmx : N + sm (L.map tV) ≤ 4611686018427387904 := by omega
      have hLm : L.length ≤ 100000 := by omega
      obtain ⟨A7, c7, rfl, hs7⟩ := Sl.of_own hown3
      have HS7 := Lib.hid hs7
      have HR7 := Lib.hid hr7
      clear hown2 hown3 hr7 hs7 hL hb2 hb3 hg2 hg3 g0 c1 c2 k1 k2 k3 hbw hst hle h11 h12_ HV2 hHeld hLl
      go_wp2
      go_loopw [3, 6, 7] (fun n k j wx => ∃ q : Nat, k = .int .i64 q ∧ q ≤ L.length ∧ n = .int .i64 ((N + sm ((L.take q).map tV) : Nat) : Int) ∧ Below w3.heap.size w3 wx) (fun _ k _ _ => L.length - (intOf k).toNat)
      case atStart => exact ⟨0, rfl, by omega, by simp only [List.take_zero, List.map_nil, sm]; rfl, Below.refl _ _⟩
      case round =>
        obtain ⟨q, rfl, hq, rfl, hbx⟩ := hrel
        by_cases hql : q < L.length
        · obtain ⟨v, hv⟩ : ∃ v, L[q]? = some v := ⟨_, List.getElem?_eq_getElem hql⟩
          obtain ⟨a7, x, y, z, rfl, hga7, hcc, c0, c1, c2⟩ := row3 vAt.len (HS7.out.on hbx) (HR7.out.imp fun a cs h => VRd.low (Lo.below hbx (Nat.le_trans hB HB2.out.size)) h) hv
          obtain ⟨um, hu, hlm⟩ := hcc
          simp only [List.cons.injEq, and_true] at hu
          obtain ⟨rfl, rfl, rfl⟩ := hu
          obtain ⟨AM, cM, xsM, rfl, hsM, hbM, hrM, hnM⟩ := hlm.open_
          have HSM := Lib.hid hsM
          have HRM := Lib.hid hrM
          have HBM := Lib.hid hbM
          have hst2 := sm_take_next tV hv
          have hle2 := sm_take_le L (q + 1) tV
          have HCM := Lib.hid (fun x hx => HCN.out v x (List.mem_of_getElem? hv) hx)
          have HTT := Lib.hid (fun x hx => HTN.out v x (List.mem_of_getElem? hv) hx)
          have HBX := Lib.hid hbx
          have C2 := Lib.hid c2
          have hlt7 : a7.block < wr.heap.size := hga7
          obtain ⟨M0, hM0⟩ : ∃ M0, M0 = N + sm ((L.take q).map tV) := ⟨_, rfl⟩
          have hM0' : N + sm (List.take q (List.map tV L)) = M0 := by rw [hM0, List.map_take]
          have HS2 := Lib.hid (show N + sm ((L.take (q + 1)).map tV) = M0 + v.s.length + sm (v.M.map Mg.txt) by rw [hst2, hM0]; show N + (_ + (v.s.length + sm (v.M.map Mg.txt))) = _; omega)
          have hmx2 : M0 + v.s.length + sm (v.M.map Mg.txt) ≤ 4611686018427387904 := by rw [← HS2.out]; omega
          have hsl : (tx v.s).size = v.s.length := by simp [tx, ByteArray.size]
          (try rw [hM0']); (try rw [← hM0])
          clear hsM hrM hbM hlm hv c0 hbx hst2 hle2 hM0 hM0'
          go_wp2
          (try rw [hsl])
          go_loopw [3, 7] (fun n j wy => ∃ t : Nat, j = .int .i64 t ∧ t ≤ v.M.length ∧ n = .int .i64 ((M0 + v.s.length + sm ((v.M.take t).map Mg.txt) : Nat) : Int) ∧ Below wr.heap.size wr wy) (fun _ j _ => v.M.length - (intOf j).toNat)
          case atStart => exact ⟨0, rfl, by omega, by simp only [List.take_zero, List.map_nil, sm]; (try rfl); (try go_num), Below.refl _ _⟩
          case round =>
            obtain ⟨t, rfl, ht, rfl, hby⟩ := hrel
            have k2 := cell_on hby C2.out
            clear c2
            by_cases htl : t < v.M.length
            · obtain ⟨x, hx⟩ : ∃ x, v.M[t]? = some x := ⟨_, List.getElem?_eq_getElem htl⟩
              obtain ⟨am, ux, rfl, hgam, hcx, k0⟩ := row1 MAt.len (sl_low HSM.out HBM.out (Lo.below hby (Nat.le_trans hB (Nat.le_trans HB2.out.size HBX.out.size)))) (HRM.out.imp fun a cs h => MRd.low (Lo.below hby (Nat.le_trans hB (Nat.le_trans HB2.out.size HBX.out.size))) h) hx
              have HCX := Lib.hid (HH.out x ux wr (Nat.le_trans hB (Nat.le_trans HB2.out.size (Nat.le_trans HBX.out.size hby.size))) hcx (HCM.out x (List.mem_of_getElem? hx)) (HTT.out x (List.mem_of_getElem? hx)))
              have hst3 := sm_take_next Mg.txt hx
              have hle3 := sm_take_le v.M (t + 1) Mg.txt
              obtain ⟨P0, hP0⟩ : ∃ P0, P0 = sm ((v.M.take t).map Mg.txt) := ⟨_, rfl⟩
              have hP0' : sm (List.take t (List.map Mg.txt v.M)) = P0 := by rw [hP0, List.map_take]
              rw [← hP0] at hst3
              have HS3 := Lib.hid hst3
              have hb3 : M0 + v.s.length + (P0 + Mg.txt x) ≤ 4611686018427387904 := by omega
              have HBY := Lib.hid hby
              (try rw [hP0']); (try rw [← hP0])
              clear hcx hx hby hst3 hle3 hP0 hP0'
              go_wp2_with (go_at_call 26; refine HCX.out.mono ?_; rintro e w9 ⟨rfl, hb9⟩)
              refine ⟨⟨t + 1, by go_num, by omega, ?_, HBY.out.trans (hb9.mono HBY.out.size)⟩, by simp [intOf]; omega⟩
              rw [HS3.out]
              go_num
            · obtain rfl : t = v.M.length := by omega
              go_wp2
              refine ⟨⟨q + 1, by go_num, by omega, ?_, HBX.out.trans (hby.mono HBX.out.size)⟩, by simp [intOf]; omega⟩
              rw [HS2.out]
              (try rw [List.take_length])
              (try rfl)
        · obtain rfl : q = L.length := by omega
          go_wp2
          refine ⟨⟨p + 1, by go_num, by omega, ?_, HB3.out.trans (hbx.mono HB3.out.size)⟩, by simp [intOf]; omega⟩
          rw [HST.out]
          (try rw [List.take_length])
          (try rfl)
    · obtain rfl : p = m.F.length := by omega
      go_wp2
      go_ret
      exact ⟨by rw [Mg.txt_eq]; (try rw [List.take_length]); (try rfl), HBW.out⟩
/-- texts, of any message. -/
theorem txt_any (B : Nat) : ∀ D, TxtH B D
  | 0 => fun _ _ _ _ h _ _ => h.elim
  | D + 1 => txt_step (txt_any B D)
theorem txt_le (m : Mg) : MIn m → Mg.txt m ≤ 140737488351232 * m.cnt := by
  refine Mg.ind (P := fun m => MIn m → Mg.txt m ≤ 140737488351232 * m.cnt) (fun m ih hi => ?_) m
  rw [Mg.txt_eq, Mg.cnt_eq]
  have hv : ∀ s ∈ m.F, ∀ v, v ∈ s.K ∨ v ∈ s.V → tV v ≤ 140737488351232 * cV v := by
    intro s hs v hv
    have h1 := ((hi.slot hs).2 v hv).1.2
    have h2 : sm (v.M.map Mg.txt) ≤ sm (v.M.map fun x => 140737488351232 * (1 + x.cnt)) := sm_mono fun x hx => by
      have := ih s hs v hv x hx (((hi.slot hs).2 v hv).2 x hx)
      omega
    have h3 : ∀ l : List Mg, sm (l.map fun x => 140737488351232 * (1 + x.cnt)) = 140737488351232 * sm (l.map fun x => 1 + x.cnt) := fun l => by
      induction l with
      | nil => rfl
      | cons x l ih => simp only [List.map_cons, sm, ih]; omega
    rw [h3] at h2
    unfold tV cV
    omega
  have hm : ∀ (l : List Vl'), (∀ v ∈ l, tV v ≤ 140737488351232 * cV v) → sm (l.map tV) ≤ 140737488351232 * sm (l.map cV) := fun l h => by
    induction l with
    | nil => exact Nat.zero_le _
    | cons x l ih => have := h x (by simp); have := ih fun v hv => h v (by simp [hv]); simp only [List.map_cons, sm]; omega
  have hs : ∀ l : List So, (∀ s ∈ l, tS s ≤ 140737488351232 * cS s) → sm (l.map tS) ≤ 140737488351232 * sm (l.map cS) := fun l h => by
    induction l with
    | nil => exact Nat.zero_le _
    | cons x l ih => have := h x (by simp); have := ih fun v hv => h v (by simp [hv]); simp only [List.map_cons, sm]; omega
  refine hs _ fun s hs' => ?_
  have h1 := hm s.K fun v hv' => hv s hs' v (.inl hv')
  have h2 := hm s.V fun v hv' => hv s hs' v (.inr hv')
  unfold tS cS
  omega
end Go.Proofs.YtipaangiehdgkaaGreatDoor.T12
/-
  One level more changes nothing of what is within fewer: what is of a message, what is normal, and its bytes.
-/
namespace Go.Proofs.YtipaangiehdgkaaGreatDoor.T12
set_option maxRecDepth 100000

open Go.Proofs.YtipaangiehdgkaaGreatDoor.T9 Go.Proofs.YtipaangiehdgkaaGreatDoor.T4

theorem fm_congr {α β : Type} {f g : α → Option β} : ∀ {l : List α}, (∀ a ∈ l, f a = g a) → l.filterMap f = l.filterMap g
  | [], _ => rfl
  | x :: l, h => by
    rw [List.filterMap_cons, List.filterMap_cons, h x (by simp), fm_congr fun a ha => h a (by simp [ha])]
theorem ask_up {G G' : Int → Mg → Bool} (h : ∀ r x, G r x = true → G' r x = true) {kind ref : Int} {v : Vl'} (ha : askG G kind ref v = true) : askG G' kind ref v = true := by
  by_cases h9 : kind = 9
  · subst h9
    obtain ⟨h1, h2, x, hx, hg⟩ := ask_nine ha
    unfold askG
    rw [if_neg (by decide), if_neg (by decide), if_pos rfl, h1, h2, hx]
    simp [oneB, h _ _ hg]
  · have e : askG G kind ref v = askG G' kind ref v := by
      unfold askG
      rw [if_neg h9, if_neg h9]
    rw [← e]; exact ha
theorem nv_up {G : Int → Mg → Bool} {N N' : Int → Mg → Mg} (h : ∀ r x, G r x = true → N' r x = N r x) {kind ref : Int} {v : Vl'} (ha : askG G kind ref v = true) : norV N' ref v = norV N ref v := by
  by_cases h9 : kind = 9
  · subst h9
    obtain ⟨h1, h2, x, hx, hg⟩ := ask_nine ha
    unfold norV
    rw [hx, List.map_cons, List.map_cons, h _ _ hg]; rfl
  · unfold norV
    rw [ask_of ha h9]; rfl
theorem vl_up {G : Int → Mg → Bool} {E E' : Int → Mg → List UInt8} (h : ∀ r x, G r x = true → E' r x = E r x) {kind ref no : Int} {v : Vl'} (ha : askG G kind ref v = true) : valL E' kind ref no v = valL E kind ref no v := by
  unfold valL
  by_cases h9 : kind = 9
  · subst h9
    obtain ⟨h1, h2, x, hx, hg⟩ := ask_nine ha
    rw [if_pos rfl, if_pos rfl, hx]
    show runL no (E' ref x) = runL no (E ref x)
    rw [h _ _ hg]
  · rw [if_neg h9, if_neg h9]
theorem up_step {s : Sc} {G G' : Int → Mg → Bool} {N N' : Int → Mg → Mg} {E E' : Int → Mg → List UInt8} (hG : ∀ r x, G r x = true → G' r x = true) (hN : ∀ r x, G r x = true → N' r x = N r x) (hE : ∀ r x, G r x = true → E' r x = E r x) (m : Int) (x : Mg) (h : isG s G m x = true) :
    isG s G' m x = true ∧ norG s N' m x = norG s N m x ∧ encG s E' m x = encG s E m x := by
  unfold isG at h
  rw [Bool.and_eq_true] at h
  obtain ⟨h0, h1⟩ := h
  obtain ⟨p1, p2, p3⟩ := slots_iff.1 h1
  have parts : ∀ {f : Df} {a : So}, fillG G f a = true → (∀ v ∈ a.K, askG G f.key 0 v = true) ∧ (∀ v ∈ a.V, askG G f.kind f.ref v = true) ∧ manyB f a.K.length a.V.length = true := fun {f a} h => by
    unfold fillG at h
    simp only [Bool.and_eq_true, List.all_eq_true] at h
    exact ⟨h.2.1, h.2.2, h.1⟩
  refine ⟨?_, ?_, ?_⟩
  · unfold isG
    rw [h0, Bool.true_and]
    refine slots_iff.2 ⟨fun a ha => ?_, p2, p3⟩
    obtain ⟨f, hf, hfl⟩ := p1 a ha
    obtain ⟨k1, k2, k3⟩ := parts hfl
    refine ⟨f, hf, ?_⟩
    unfold fillG
    simp only [Bool.and_eq_true, List.all_eq_true]
    exact ⟨k3, fun v hv => ask_up hG (k1 v hv), fun v hv => ask_up hG (k2 v hv)⟩
  · refine Mg.ext ?_
    show srt ltNo (x.F.filterMap (norO (byS s m) N')) = srt ltNo (x.F.filterMap (norO (byS s m) N))
    rw [fm_congr fun a ha => ?_]
    obtain ⟨f, hf, hfl⟩ := p1 a ha
    obtain ⟨k1, k2, k3⟩ := parts hfl
    have e : norS N' f a = norS N f a := by
      unfold norS
      by_cases hk : f.key = -1
      · rw [if_pos hk, if_pos hk, List.map_congr_left fun v hv => nv_up hN (k2 v hv)]
      · rw [if_neg hk, if_neg hk, List.map_congr_left fun k hk' => ?_]
        refine nv_up hN (k2 _ (last_V ?_ hk'))
        unfold manyB at k3
        rw [if_neg hk] at k3
        exact beq_iff_eq.1 k3
    unfold norO
    rw [hf, Option.bind_some, Option.bind_some, e]
  · unfold encG
    rw [List.map_congr_left fun a ha => ?_]
    obtain ⟨f, hf, hfl⟩ := p1 a ha
    obtain ⟨k1, k2, k3⟩ := parts hfl
    unfold slotL
    rw [hf]
    show fieldL E' f a = fieldL E f a
    unfold fieldL
    by_cases hk : f.key = -1
    · rw [if_pos hk, if_pos hk]
      by_cases hc : (f.rep && cnt f.kind) = true
      · rw [if_pos hc, if_pos hc]
      · rw [if_neg hc, if_neg hc, List.map_congr_left fun v hv => vl_up hE (k2 v hv)]
    · rw [if_neg hk, if_neg hk, List.map_congr_left fun p hp => ?_]
      obtain ⟨k, v⟩ := p
      have hz := List.of_mem_zip hp
      unfold entL
      rw [vl_up hE (k1 k hz.1), vl_up hE (k2 v hz.2)]
theorem up_all (s : Sc) : ∀ d m x, isB s d m x = true → isB s (d + 1) m x = true ∧ norB s (d + 1) m x = norB s d m x ∧ encB s (d + 1) m x = encB s d m x
  | 0, _, _, h => by cases h
  | d + 1, m, x, h => up_step (fun r y hy => (up_all s d r y hy).1) (fun r y hy => (up_all s d r y hy).2.1) (fun r y hy => (up_all s d r y hy).2.2) m x h
end Go.Proofs.YtipaangiehdgkaaGreatDoor.T12
/-
  No two normal messages of one message have the same bytes.
-/
namespace Go.Proofs.YtipaangiehdgkaaGreatDoor.T12
set_option maxRecDepth 100000

open Go.Proofs.YtipaangiehdgkaaGreatDoor.T9 Go.Proofs.YtipaangiehdgkaaGreatDoor.T4

/-- The bytes of one record, of number n. -/
def IsRec (n : Int) (b : List UInt8) : Prop := ∃ (nn wn num : Nat) (run : List UInt8), n = nn ∧ b = recL nn wn num run ∧ putB nn wn = true ∧ num < 18446744073709551616 ∧ run.length < 18446744073709551616
theorem IsRec.ne {n : Int} {b : List UInt8} (h : IsRec n b) : 2 ≤ b.length := by
  obtain ⟨nn, wn, num, run, -, rfl, hp, -, -⟩ := h
  exact rec_ne hp
theorem rec_cut {n n' : Int} {b b' t t' : List UInt8} (h : IsRec n b) (h' : IsRec n' b') (e : b ++ t = b' ++ t') : n = n' ∧ b = b' ∧ t = t' := by
  obtain ⟨nn, wn, num, run, rfl, rfl, hp, hn, hr⟩ := h
  obtain ⟨nn', wn', num', run', rfl, rfl, hp', hn', hr'⟩ := h'
  have h1 := wnext_put hp hn hr t
  have h2 := wnext_put hp' hn' hr' t'
  rw [e, h2] at h1
  have hl : (recL nn' wn' num' run').length = (recL nn wn num run).length := congrArg (fun x => x.2.1) h1
  have hno : nn' = nn := congrArg (fun x => x.1.no) h1
  obtain ⟨e1, e2⟩ := List.append_inj e hl.symm
  exact ⟨by rw [hno], e1, e2⟩
theorem recs_cut : ∀ {L L' : List (List UInt8)}, (∀ b ∈ L, ∃ n, IsRec n b) → (∀ b ∈ L', ∃ n, IsRec n b) → L.flatten = L'.flatten → L = L'
  | [], [], _, _, _ => rfl
  | [], b :: L', _, h', e => by
    obtain ⟨n, hb⟩ := h' b (by simp)
    have := hb.ne
    have h := congrArg List.length e
    simp only [List.flatten_nil, List.length_nil, List.flatten_cons, List.length_append] at h
    omega
  | b :: L, [], h, _, e => by
    obtain ⟨n, hb⟩ := h b (by simp)
    have := hb.ne
    have h := congrArg List.length e
    simp only [List.flatten_nil, List.length_nil, List.flatten_cons, List.length_append] at h
    omega
  | b :: L, b' :: L', h, h', e => by
    obtain ⟨n, hb⟩ := h b (by simp)
    obtain ⟨n', hb'⟩ := h' b' (by simp)
    rw [List.flatten_cons, List.flatten_cons] at e
    obtain ⟨-, e1, e2⟩ := rec_cut hb hb' e
    rw [e1, recs_cut (fun b hb => h b (by simp [hb])) (fun b hb => h' b (by simp [hb])) e2]
theorem split_inj {α : Type} {P : α → Prop} : ∀ {X X' Y Y' : List α}, (∀ a ∈ X, P a) → (∀ a ∈ X', P a) → (∀ a ∈ Y, ¬ P a) → (∀ a ∈ Y', ¬ P a) → X ++ Y = X' ++ Y' → X = X' ∧ Y = Y'
  | [], [], _, _, _, _, _, _, e => ⟨rfl, e⟩
  | [], b :: X', Y, Y', _, h', hY, _, e => by
    rw [List.nil_append] at e
    exact absurd (h' b (by simp)) (hY b (by rw [e]; simp))
  | a :: X, [], Y, Y', h, _, _, hY', e => by
    rw [List.nil_append] at e
    exact absurd (h a (by simp)) (hY' a (by rw [← e]; simp))
  | a :: X, b :: X', Y, Y', h, h', hY, hY', e => by
    simp only [List.cons_append, List.cons.injEq] at e
    obtain ⟨e1, e2⟩ := split_inj (fun a ha => h a (by simp [ha])) (fun a ha => h' a (by simp [ha])) hY hY' e.2
    exact ⟨by rw [e.1, e1], e2⟩
/-- Slots by rising numbers, with records of their numbers: each one's are its own. -/
theorem group {R : So → List (List UInt8)} : ∀ {F F' : List So}, Rise ltNo F → Rise ltNo F' → (∀ a ∈ F, R a ≠ [] ∧ ∀ b ∈ R a, IsRec a.no b) → (∀ a ∈ F', R a ≠ [] ∧ ∀ b ∈ R a, IsRec a.no b) →
    (∀ a ∈ F, ∀ a' ∈ F', a.no = a'.no → R a = R a' → a = a') → (F.map R).flatten = (F'.map R).flatten → F = F'
  | [], [], _, _, _, _, _, _ => rfl
  | [], a :: F', _, _, _, h', _, e => by
    have := (h' a (by simp)).1
    simp only [List.map_nil, List.flatten_nil, List.map_cons, List.flatten_cons] at e
    exact absurd (List.append_eq_nil_iff.1 e.symm).1 this
  | a :: F, [], _, _, h, _, _, e => by
    have := (h a (by simp)).1
    simp only [List.map_nil, List.flatten_nil, List.map_cons, List.flatten_cons] at e
    exact absurd (List.append_eq_nil_iff.1 e).1 this
  | a :: F, a' :: F', r, r', h, h', hi, e => by
    simp only [List.map_cons, List.flatten_cons] at e
    obtain ⟨n1, p1⟩ := h a (by simp)
    obtain ⟨n2, p2⟩ := h' a' (by simp)
    have hno : a.no = a'.no := by
      cases hx : R a with
      | nil => exact absurd hx n1
      | cons b L =>
        cases hy : R a' with
        | nil => exact absurd hy n2
        | cons b' L' =>
          rw [hx, hy] at e
          simp only [List.cons_append, List.cons.injEq] at e
          have q1 := p1 b (by rw [hx]; simp)
          have q2 := p2 b' (by rw [hy]; simp)
          rw [← e.1] at q2
          exact (rec_cut (t := []) (t' := []) q1 q2 rfl).1
    have rest : ∀ {a : So} {F : List So}, Rise ltNo (a :: F) → (∀ x ∈ a :: F, R x ≠ [] ∧ ∀ b ∈ R x, IsRec x.no b) → ∀ b ∈ (F.map R).flatten, ¬ IsRec a.no b := fun {a F} hr hh b hb hc => by
      obtain ⟨L, hL, hb⟩ := List.mem_flatten.1 hb
      obtain ⟨x, hx, rfl⟩ := List.mem_map.1 hL
      have q := (hh x (by simp [hx])).2 b hb
      have hlt := (List.pairwise_cons.1 hr).1 x hx
      have e := (rec_cut (t := []) (t' := []) q hc rfl).1
      simp [ltNo, e] at hlt
    obtain ⟨e1, e2⟩ := split_inj (P := IsRec a.no) p1 (by rw [hno]; exact p2) (rest r h) (by rw [hno]; exact rest r' h') e
    have ea := hi a (by simp) a' (by simp) hno e1
    have eF := group (List.pairwise_cons.1 r).2 (List.pairwise_cons.1 r').2 (fun x hx => h x (by simp [hx])) (fun x hx => h' x (by simp [hx])) (fun x hx y hy => hi x (by simp [hx]) y (by simp [hy])) e2
    rw [ea, eF]

/-! ### Values -/

theorem run_inj {no : Int} (hno : 1 ≤ no ∧ no ≤ 536870911) {x y : List UInt8} (hx : x.length < 18446744073709551616) (hy : y.length < 18446744073709551616) (e : runL no x = runL no y) : x = y := by
  obtain ⟨nn, rfl⟩ := Int.eq_ofNat_of_zero_le (show 0 ≤ no by omega)
  have hp2 : putB (nn : Int) ((2 : Nat) : Int) = true := put_run hno
  have h := (recL_iff (wire := 2) (wire' := 2) hp2 hp2 (n := 0) (m := 0) (by omega) (by omega) hx hy).1 e
  unfold oneQ at h
  simpa using h.2.2
theorem run_is {no : Int} (hno : 1 ≤ no ∧ no ≤ 536870911) {x : List UInt8} (hx : x.length < 18446744073709551616) : IsRec no (runL no x) := by
  obtain ⟨nn, rfl⟩ := Int.eq_ofNat_of_zero_le (show 0 ≤ no by omega)
  exact ⟨nn, 2, 0, x, rfl, rfl, put_run hno, by omega, hx⟩
theorem wire_cases {k : Int} (h : cnt k = true) : ∃ wn : Nat, wireI k = wn ∧ (wn = 0 ∨ wn = 1 ∨ wn = 5) ∧ (wn = 5 → k = 4) := by
  rcases seven_cnt h with rfl | rfl | rfl | rfl | rfl | rfl | rfl
  · exact ⟨0, by decide, by omega, by omega⟩
  · exact ⟨0, by decide, by omega, by omega⟩
  · exact ⟨0, by decide, by omega, by omega⟩
  · exact ⟨0, by decide, by omega, by omega⟩
  · exact ⟨5, by decide, by omega, by omega⟩
  · exact ⟨1, by decide, by omega, by omega⟩
  · exact ⟨0, by decide, by omega, by omega⟩
theorem bits_low {n : Int} (h : fitsB 4 n = true) : (bitsI 4 n).toNat < 4294967296 := by
  unfold bitsI
  rw [if_pos h]
  unfold fitsB at h
  simp at h
  unfold U64
  simp
  split <;> omega
/-- The number that is read again of a number's bytes tells the number. -/
theorem numQ_inj {kind n m : Int} (hn : inI n) (hm : inI m) (fn : fitsB kind n = true) (fm : fitsB kind m = true) {wn : Nat} (hw : wireI kind = wn) (h015 : wn = 0 ∨ wn = 1 ∨ wn = 5) (h5 : wn = 5 → kind = 4) (e : numQ wn (bitsI kind n).toNat [] = numQ wn (bitsI kind m).toNat []) : n = m := by
  have e2 : (bitsI kind n).toNat = (bitsI kind m).toNat := by
    unfold numQ at e
    have h2 : ¬ wn = 2 := by omega
    simp only [if_neg h2] at e
    by_cases hw5 : wn = 5
    · obtain rfl := h5 hw5
      have h1 := bits_low fn
      have h2 := bits_low fm
      simp only [if_pos hw5] at e
      omega
    · simp only [if_neg hw5] at e
      exact e
  have b1 := bitsI_bound kind (n := n) hn.1 hn.2
  have b2 := bitsI_bound kind (n := m) hm.1 hm.2
  have e3 : bitsI kind n = bitsI kind m := by omega
  have h := bits_one hn.1 hn.2 hm.1 hm.2 fn fm
  rw [e3] at h
  simpa using h.symm
theorem ask_fits {G : Int → Mg → Bool} {kind ref : Int} {v : Vl'} (h : askG G kind ref v = true) (hc : cnt kind = true) : fitsB kind v.n = true ∧ v.s = [] ∧ v.M = [] := by
  have := seven_cnt hc
  unfold askG at h
  rw [if_neg (by omega), if_neg (by omega), if_neg (by omega)] at h
  simp only [Bool.and_eq_true, List.isEmpty_iff] at h
  exact ⟨h.1, h.2.1, h.2.2⟩
theorem vl_ext {v w : Vl'} (h1 : v.n = w.n) (h2 : v.s = w.s) (h3 : v.M = w.M) : v = w := by
  cases v; cases w; simp_all
structure OkI (s : Sc) (d : Nat) (kind ref : Int) (v : Vl') : Prop where
  ask : askG (isB s d) kind ref v = true
  nor : norV (norB s d) ref v = v
  in_ : VIn v
  few : 40 * cV v + tV v ≤ 35184372088832
def InjH (s : Sc) (d : Nat) : Prop := ∀ m p q, isB s d m p = true → isB s d m q = true → norB s d m p = p → norB s d m q = q → MIn p → MIn q → 40 * p.cnt + Mg.txt p ≤ 35184372088832 → 40 * q.cnt + Mg.txt q ≤ 35184372088832 → encB s d m p = encB s d m q → p = q
theorem OkI.msg {s : Sc} {d : Nat} {ref : Int} {v : Vl'} (h : OkI s d 9 ref v) : ∃ x, v = ⟨0, [], [x]⟩ ∧ isB s d ref x = true ∧ norB s d ref x = x ∧ MIn x ∧ 40 * x.cnt + Mg.txt x ≤ 35184372088832 := by
  obtain ⟨h1, h2, x, hx, hg⟩ := ask_nine h.ask
  have hn := congrArg VV.M h.nor
  unfold norV at hn
  simp only [hx, List.map_cons, List.map_nil, List.cons.injEq, and_true] at hn
  have h3 := sm_mem (g := Mg.txt) (show x ∈ v.M by rw [hx]; simp)
  have h4 := cnt_le (v := v) (x := x) (by rw [hx]; simp)
  have h5 : tV v = v.s.length + sm (v.M.map Mg.txt) := rfl
  have h6 := h.few
  exact ⟨x, vl_ext h1 h2 hx, hg, hn, h.in_.2 x (by rw [hx]; simp), by omega⟩
theorem val_is {s : Sc} {d : Nat} {kind ref no : Int} {v : Vl'} (h : OkI s d kind ref v) (hno : 1 ≤ no ∧ no ≤ 536870911) : IsRec no (valL (encB s d) kind ref no v) := by
  unfold valL
  by_cases h9 : kind = 9
  · subst h9
    obtain ⟨x, rfl, -, -, hi, hw⟩ := h.msg
    have h4 := enc_len s d ref x hi (by omega)
    rw [if_pos rfl]
    exact run_is hno (show (encB s d ref x).length < _ by omega)
  · rw [if_neg h9]
    by_cases h78 : kind = 7 ∨ kind = 8
    · rw [if_pos h78]
      have := h.in_.1.2
      exact run_is hno (by omega)
    · rw [if_neg h78]
      have hc := ask_cnt h.ask (fun e => h78 (.inl e)) (fun e => h78 (.inr e)) h9
      obtain ⟨wn, hwn, -, -⟩ := wire_cases hc
      obtain ⟨nn, rfl⟩ := Int.eq_ofNat_of_zero_le (show 0 ≤ no by omega)
      exact ⟨nn, wn, (bitsI kind v.n).toNat, [], rfl, by unfold encN; rw [hwn], hwn ▸ put_num hno hc, bits_nat kind v.n h.in_.1.1, by simp⟩
theorem val_inj {s : Sc} {d : Nat} (H : InjH s d) {kind ref no : Int} {v w : Vl'} (hv : OkI s d kind ref v) (hw : OkI s d kind ref w) (hno : 1 ≤ no ∧ no ≤ 536870911) (e : valL (encB s d) kind ref no v = valL (encB s d) kind ref no w) : v = w := by
  unfold valL at e
  by_cases h9 : kind = 9
  · subst h9
    obtain ⟨x, rfl, g1, n1, i1, f1⟩ := hv.msg
    obtain ⟨y, rfl, g2, n2, i2, f2⟩ := hw.msg
    have l1 := enc_len s d ref x i1 (by omega)
    have l2 := enc_len s d ref y i2 (by omega)
    rw [if_pos rfl, if_pos rfl] at e
    have := run_inj hno (show (encB s d ref x).length < _ by omega) (show (encB s d ref y).length < _ by omega) e
    rw [H ref x y g1 g2 n1 n2 i1 i2 f1 f2 this]
  · rw [if_neg h9, if_neg h9] at e
    by_cases h78 : kind = 7 ∨ kind = 8
    · rw [if_pos h78, if_pos h78] at e
      have b1 := hv.in_.1.2
      have b2 := hw.in_.1.2
      have es := run_inj hno (by omega) (by omega) e
      have m1 := ask_of hv.ask h9
      have m2 := ask_of hw.ask h9
      have z : ∀ {v : Vl'}, askG (isB s d) kind ref v = true → v.n = 0 := fun {v} h => by
        unfold askG at h
        rcases h78 with h7 | h8
        · rw [if_pos h7] at h
          simp only [Bool.and_eq_true, beq_iff_eq] at h
          exact h.1
        · rw [if_neg (by omega), if_pos h8] at h
          simp only [Bool.and_eq_true, beq_iff_eq] at h
          exact h.1
      exact vl_ext ((z hv.ask).trans (z hw.ask).symm) es (m1.trans m2.symm)
    · rw [if_neg h78, if_neg h78] at e
      have hc := ask_cnt hv.ask (fun e => h78 (.inl e)) (fun e => h78 (.inr e)) h9
      obtain ⟨f1, s1, m1⟩ := ask_fits hv.ask hc
      obtain ⟨f2, s2, m2⟩ := ask_fits hw.ask hc
      obtain ⟨wn, hwn, h015, h5⟩ := wire_cases hc
      obtain ⟨nn, rfl⟩ := Int.eq_ofNat_of_zero_le (show 0 ≤ no by omega)
      have hp : putB (nn : Int) (wn : Int) = true := hwn ▸ put_num hno hc
      unfold encN at e
      rw [hwn] at e
      have w1 := wnext_put hp (bits_nat kind v.n hv.in_.1.1) (run := []) (by simp) []
      have w2 := wnext_put hp (bits_nat kind w.n hw.in_.1.1) (run := []) (by simp) []
      rw [e, w2] at w1
      have hq : numQ wn (bitsI kind w.n).toNat [] = numQ wn (bitsI kind v.n).toNat [] := congrArg (fun x => x.1.num) w1
      exact vl_ext (numQ_inj hv.in_.1.1 hw.in_.1.1 f1 f2 hwn h015 h5 hq.symm) (s1.trans s2.symm) (m1.trans m2.symm)
theorem bare_is {kind : Int} (hc : cnt kind = true) {wn : Nat} (hwn : wireI kind = wn) (n : Int) : bareN kind n = restL wn (bitsI kind n).toNat [] := by
  unfold bareN encN
  rw [recL_yes (put_num ⟨by decide, by decide⟩ hc), hwn]
  have h1 : (putL 1 (wireI kind)).length = 1 := by
    rw [putL_yes (put_num ⟨by decide, by decide⟩ hc), vput_length]
    obtain ⟨wn', hw', h015, -⟩ := wire_cases hc
    unfold putN
    rw [hw']
    rcases h015 with rfl | rfl | rfl <;> (unfold vlong; simp)
  rw [hwn] at h1
  rw [List.drop_append_of_le_length (by omega), List.drop_of_length_le (by omega), List.nil_append]
theorem bare_inj {s : Sc} {d : Nat} {kind ref : Int} (hc : cnt kind = true) : ∀ {V V' : List Vl'}, (∀ v ∈ V, OkI s d kind ref v) → (∀ v ∈ V', OkI s d kind ref v) → (V.map fun v => bareN kind v.n).flatten = (V'.map fun v => bareN kind v.n).flatten → V = V'
  | [], [], _, _, _ => rfl
  | [], v :: V', _, h', e => by
    have h := congrArg List.length e
    simp only [List.map_nil, List.flatten_nil, List.length_nil, List.map_cons, List.flatten_cons, List.length_append] at h
    have hl := rec_ne (num := (bitsI kind v.n).toNat) (run := []) (put_num (no := 1) ⟨by decide, by decide⟩ hc)
    have : (bareN kind v.n).length + 1 = (encN kind 1 v.n).length := by unfold bareN; rw [List.length_drop]; unfold encN; omega
    unfold encN at this
    omega
  | v :: V, [], _, h', e => by
    have h := congrArg List.length e
    simp only [List.map_nil, List.flatten_nil, List.length_nil, List.map_cons, List.flatten_cons, List.length_append] at h
    have hl := rec_ne (num := (bitsI kind v.n).toNat) (run := []) (put_num (no := 1) ⟨by decide, by decide⟩ hc)
    have : (bareN kind v.n).length + 1 = (encN kind 1 v.n).length := by unfold bareN; rw [List.length_drop]; unfold encN; omega
    unfold encN at this
    omega
  | v :: V, w :: V', h, h', e => by
    simp only [List.map_cons, List.flatten_cons] at e
    have hv := h v (by simp)
    have hw := h' w (by simp)
    obtain ⟨wn, hwn, h015, h5⟩ := wire_cases hc
    obtain ⟨f1, s1, m1⟩ := ask_fits hv.ask hc
    obtain ⟨f2, s2, m2⟩ := ask_fits hw.ask hc
    have e' := e
    rw [bare_is hc hwn, bare_is hc hwn] at e'
    have w1 := wnum_put (run := []) (t := (V.map fun v => bareN kind v.n).flatten) h015 (bits_nat kind v.n hv.in_.1.1)
    have w2 := wnum_put (run := []) (t := (V'.map fun v => bareN kind v.n).flatten) h015 (bits_nat kind w.n hw.in_.1.1)
    rw [e', w2] at w1
    have hq : numQ wn (bitsI kind w.n).toNat [] = numQ wn (bitsI kind v.n).toNat [] := congrArg (fun x => x.1) w1
    have hl : (restL wn (bitsI kind w.n).toNat []).length = (restL wn (bitsI kind v.n).toNat []).length := congrArg (fun x => x.2.1) w1
    obtain ⟨-, e2⟩ := List.append_inj e' hl.symm
    rw [vl_ext (numQ_inj hv.in_.1.1 hw.in_.1.1 f1 f2 hwn h015 h5 hq.symm) (s1.trans s2.symm) (m1.trans m2.symm), bare_inj hc (fun x hx => h x (by simp [hx])) (fun x hx => h' x (by simp [hx])) e2]
theorem map_inj_on {α β : Type} {g : α → β} : ∀ {l l' : List α}, (∀ a ∈ l, ∀ b ∈ l', g a = g b → a = b) → l.map g = l'.map g → l = l'
  | [], [], _, _ => rfl
  | [], _ :: _, _, e => by simp at e
  | _ :: _, [], _, e => by simp at e
  | a :: l, b :: l', h, e => by
    simp only [List.map_cons, List.cons.injEq] at e
    rw [h a (by simp) b (by simp) e.1, map_inj_on (fun x hx y hy => h x (by simp [hx]) y (by simp [hy])) e.2]
theorem zip_inj {α β : Type} : ∀ {K K' : List α} {V V' : List β}, K.length = V.length → K'.length = V'.length → K.zip V = K'.zip V' → K = K' ∧ V = V'
  | [], [], [], [], _, _, _ => ⟨rfl, rfl⟩
  | [], k :: K', [], v :: V', _, _, e => by simp at e
  | k :: K, [], v :: V, [], _, _, e => by simp at e
  | k :: K, k' :: K', v :: V, v' :: V', h, h', e => by
    simp only [List.zip_cons_cons, List.cons.injEq, Prod.mk.injEq] at e
    obtain ⟨e1, e2⟩ := zip_inj (by simpa using h) (by simpa using h') e.2
    exact ⟨by rw [e.1.1, e1], by rw [e.1.2, e2]⟩
/-- A field's records. -/
def fieldR (E : Int → Mg → List UInt8) (f : Df) (a : So) : List (List UInt8) :=
  if f.key = -1 then (if f.rep && cnt f.kind then [runL f.no (a.V.map fun v => bareN f.kind v.n).flatten] else a.V.map (valL E f.kind f.ref f.no))
  else (a.K.zip a.V).map (entL E f)
theorem field_R (E : Int → Mg → List UInt8) (f : Df) (a : So) : fieldL E f a = (fieldR E f a).flatten := by
  unfold fieldL fieldR
  split
  · split
    · simp
    · rfl
  · rfl
structure OkF (s : Sc) (d : Nat) (f : Df) (a : So) : Prop where
  V : ∀ v ∈ a.V, OkI s d f.kind f.ref v
  K : ∀ v ∈ a.K, OkI s d f.key 0 v
  len : f.key ≠ -1 → a.K.length = a.V.length
  none : f.key = -1 → a.K = []
  some : a.V ≠ []
  few : 40 * cS a + tS a ≤ 35184372088832
  in_ : SIn a
theorem bareF_len {s : Sc} {d : Nat} {kind ref : Int} : ∀ {l : List Vl'}, (∀ v ∈ l, OkI s d kind ref v) → (l.map fun v => bareN kind v.n).flatten.length ≤ 15 * l.length
  | [], _ => by simp
  | x :: l, h => by
    have h1 := bareF_len fun v hv => h v (List.mem_cons_of_mem x hv)
    have h2 := encN_len kind 1 x.n (h x (by simp)).in_.1.1
    simp only [List.map_cons, List.flatten_cons, List.length_append, List.length_cons]
    have h3 : (bareN kind x.n).length ≤ 15 := by unfold bareN; rw [List.length_drop]; omega
    omega
theorem ent_len {s : Sc} {d : Nat} {f : Df} {k v : Vl'} (hk : OkI s d f.key 0 k) (hv : OkI s d f.kind f.ref v) : (valL (encB s d) f.key 0 1 k ++ valL (encB s d) f.kind f.ref 2 v).length < 18446744073709551616 := by
  have l1 := val_len (enc_len s d) f.key 0 1 k hk.in_ (Nat.le_trans hk.few (by decide))
  have l2 := val_len (enc_len s d) f.kind f.ref 2 v hv.in_ (Nat.le_trans hv.few (by decide))
  have := hk.few
  have := hv.few
  rw [List.length_append]
  omega
theorem field_is {s : Sc} {d : Nat} {f : Df} {a : So} (h : OkF s d f a) (hno : 1 ≤ f.no ∧ f.no ≤ 536870911) : fieldR (encB s d) f a ≠ [] ∧ ∀ b ∈ fieldR (encB s d) f a, IsRec f.no b := by
  have hfl := field_len (enc_len s d) f a h.in_ (Nat.le_trans h.few (by decide))
  have hfw := h.few
  unfold fieldR
  by_cases hk : f.key = -1
  · rw [if_pos hk]
    by_cases hc : (f.rep && cnt f.kind) = true
    · rw [if_pos hc]
      refine ⟨by simp, fun b hb => ?_⟩
      obtain rfl := List.mem_singleton.1 hb
      have := cS_len (s := a)
      exact run_is hno (Nat.lt_of_le_of_lt (bareF_len h.V) (by omega))
    · rw [if_neg hc]
      refine ⟨by simpa using h.some, fun b hb => ?_⟩
      obtain ⟨v, hv, rfl⟩ := List.mem_map.1 hb
      exact val_is (h.V v hv) hno
  · rw [if_neg hk]
    refine ⟨fun e => h.some ?_, fun b hb => ?_⟩
    · have : (a.K.zip a.V).length = 0 := by
        have := congrArg List.length e
        simpa using this
      rw [List.length_zip, h.len hk, Nat.min_self] at this
      exact List.eq_nil_of_length_eq_zero this
    · obtain ⟨⟨k, v⟩, hp, rfl⟩ := List.mem_map.1 hb
      have hz := List.of_mem_zip hp
      exact run_is hno (ent_len (h.K k hz.1) (h.V v hz.2))
theorem field_inj {s : Sc} {d : Nat} (H : InjH s d) {f : Df} {a a' : So} (h : OkF s d f a) (h' : OkF s d f a') (hno : 1 ≤ f.no ∧ f.no ≤ 536870911) (en : a.no = a'.no) (e : fieldR (encB s d) f a = fieldR (encB s d) f a') : a = a' := by
  have ext : a.K = a'.K → a.V = a'.V → a = a' := fun h1 h2 => by
    cases a; cases a'; simp_all
  unfold fieldR at e
  by_cases hk : f.key = -1
  · rw [if_pos hk, if_pos hk] at e
    refine ext ((h.none hk).trans (h'.none hk).symm) ?_
    by_cases hc : (f.rep && cnt f.kind) = true
    · rw [if_pos hc, if_pos hc] at e
      rw [Bool.and_eq_true] at hc
      have l1 := bareF_len h.V
      have l2 := bareF_len h'.V
      have c1 := cS_len (s := a)
      have c2 := cS_len (s := a')
      have f1 := h.few
      have f2 := h'.few
      simp only [List.cons.injEq, and_true] at e
      exact bare_inj hc.2 h.V h'.V (run_inj hno (by omega) (by omega) e)
    · rw [if_neg hc, if_neg hc] at e
      exact map_inj_on (fun v hv w hw => val_inj H (h.V v hv) (h'.V w hw) hno) e
  · rw [if_neg hk, if_neg hk] at e
    have hz := map_inj_on (fun p hp q hq ee => by
      obtain ⟨k, v⟩ := p
      obtain ⟨k', v'⟩ := q
      have z1 := List.of_mem_zip hp
      have z2 := List.of_mem_zip hq
      have e1 := run_inj hno (ent_len (h.K k z1.1) (h.V v z1.2)) (ent_len (h'.K k' z2.1) (h'.V v' z2.2)) ee
      obtain ⟨-, e2, e3⟩ := rec_cut (val_is (h.K k z1.1) (no := 1) ⟨by decide, by decide⟩) (val_is (h'.K k' z2.1) (no := 1) ⟨by decide, by decide⟩) e1
      rw [val_inj H (h.K k z1.1) (h'.K k' z2.1) ⟨by decide, by decide⟩ e2, val_inj H (h.V v z1.2) (h'.V v' z2.2) (no := 2) ⟨by decide, by decide⟩ e3]) e
    obtain ⟨e1, e2⟩ := zip_inj (h.len hk) (h'.len hk) hz
    exact ext e1 e2
/-- What a normal message's slots are. -/
theorem slots_ok {s : Sc} (hsm : ScMay s) {d : Nat} {m : Int} {p : Mg} (h : isB s (d + 1) m p = true) (hn : norB s (d + 1) m p = p) (hi : MIn p) (hw : 40 * p.cnt + Mg.txt p ≤ 35184372088832) :
    Rise ltNo p.F ∧ ∀ a ∈ p.F, ∃ f, byS s m a.no = some f ∧ f.no = a.no ∧ (1 ≤ f.no ∧ f.no ≤ 536870911) ∧ OkF s d f a := by
  have hF : norF (byS s m) (norB s d) p.F = p.F := congrArg Mg.F hn
  refine ⟨by rw [← hF]; exact rise_norF _ _ _, fun a ha => ?_⟩
  obtain ⟨h1, -, -⟩ := slots_iff.1 (isB_slots h)
  obtain ⟨f, hf, hfl⟩ := h1 a ha
  obtain ⟨f', hf', ht, hs⟩ := norO_some (norO_self h hn ha)
  rw [hf] at hf'
  obtain rfl := Option.some.inj hf'
  obtain ⟨hr, hno⟩ := fno_ok hsm hf
  unfold fillG at hfl
  simp only [Bool.and_eq_true, List.all_eq_true] at hfl
  obtain ⟨f1, f2, f3⟩ := hfl
  have g := norB_good (may_keys hsm) d
  rw [Mg.cnt_eq, Mg.txt_eq] at hw
  have hcs := sm_mem (g := cS) ha
  have hts := sm_mem (g := tS) ha
  have fewS : 40 * cS a + tS a ≤ 35184372088832 := by omega
  have hci : ∀ v, v ∈ a.K ∨ v ∈ a.V → 40 * cV v + tV v ≤ 35184372088832 := fun v hv => by
    have c1 := cV_le hv
    have e : tS a = sm (a.K.map tV) + sm (a.V.map tV) := rfl
    rcases hv with hv | hv
    · have := sm_mem (g := tV) hv; omega
    · have := sm_mem (g := tV) hv; omega
  have hk9 := may_keys hsm m a.no f hf
  have lenK : f.key ≠ -1 → a.K.length = a.V.length := fun hk => by
    unfold manyB at f1
    rw [if_neg hk] at f1
    exact beq_iff_eq.1 f1
  have norK : ∀ v ∈ a.K, norV (norB s d) 0 v = v := fun v hv => by
    have := ask_of (f2 v hv) hk9
    unfold norV
    rw [this]
    exact vl_ext rfl rfl this.symm
  have norVV : ∀ v ∈ a.V, norV (norB s d) f.ref v = v := by
    by_cases hk : f.key = -1
    · have e := congrArg SL.V hs
      unfold norS at e
      rw [if_pos hk] at e
      have e : a.V = a.V.map (norV (norB s d) f.ref) := e
      intro v hv
      rw [e] at hv
      obtain ⟨w, hw', rfl⟩ := List.mem_map.1 hv
      exact (good_val g (f3 w hw')).same
    · have e := congrArg SL.V hs
      unfold norS at e
      rw [if_neg hk] at e
      intro v hv
      rw [e] at hv
      obtain ⟨k, hk', rfl⟩ := List.mem_map.1 hv
      exact (good_val g (f3 _ (last_V (lenK hk) hk'))).same
  refine ⟨f, hf, hno, hr, ⟨fun v hv => ⟨f3 v hv, norVV v hv, (hi.slot ha).val (.inr hv), hci v (.inr hv)⟩, fun v hv => ⟨f2 v hv, norK v hv, (hi.slot ha).val (.inl hv), hci v (.inl hv)⟩, lenK, fun hk => ?_, told_ne ht, fewS, hi.slot ha⟩⟩
  unfold manyB at f1
  rw [if_pos hk] at f1
  simp only [Bool.and_eq_true, beq_iff_eq] at f1
  exact List.eq_nil_of_length_eq_zero f1.1
theorem enc_inj {s : Sc} (hsm : ScMay s) : ∀ d, InjH s d
  | 0 => fun _ _ _ h => by cases h
  | d + 1 => by
    intro m p q hp hq np nq ip iq wp wq e
    obtain ⟨r1, o1⟩ := slots_ok hsm hp np ip wp
    obtain ⟨r2, o2⟩ := slots_ok hsm hq nq iq wq
    obtain ⟨R, hR⟩ : ∃ R : So → List (List UInt8), R = fun a => match byS s m a.no with | none => [] | some f => fieldR (encB s d) f a := ⟨_, rfl⟩
    have hS : ∀ a, slotL (byS s m) (encB s d) a = (R a).flatten := fun a => by
      rw [hR]
      show slotL (byS s m) (encB s d) a = (match byS s m a.no with | none => [] | some f => fieldR (encB s d) f a).flatten
      unfold slotL
      cases hb : byS s m a.no with
      | none => rfl
      | some f => exact field_R _ _ _
    have hfl : ∀ F : List So, (F.map (slotL (byS s m) (encB s d))).flatten = ((F.map R).flatten).flatten := fun F => by
      induction F with
      | nil => rfl
      | cons a F ih => simp only [List.map_cons, List.flatten_cons, List.flatten_append, ih, hS]
    have hRf : ∀ {a : So} {f : Df}, byS s m a.no = some f → R a = fieldR (encB s d) f a := fun {a f} h => by
      rw [hR]
      show (match byS s m a.no with | none => [] | some f => fieldR (encB s d) f a) = _
      rw [h]
    have k1 : ∀ a ∈ p.F, R a ≠ [] ∧ ∀ b ∈ R a, IsRec a.no b := fun a ha => by
      obtain ⟨f, hf, hno, hr, hok⟩ := o1 a ha
      rw [hRf hf, ← hno]
      exact field_is hok hr
    have k2 : ∀ a ∈ q.F, R a ≠ [] ∧ ∀ b ∈ R a, IsRec a.no b := fun a ha => by
      obtain ⟨f, hf, hno, hr, hok⟩ := o2 a ha
      rw [hRf hf, ← hno]
      exact field_is hok hr
    have all : ∀ {F : List So}, (∀ a ∈ F, R a ≠ [] ∧ ∀ b ∈ R a, IsRec a.no b) → ∀ b ∈ (F.map R).flatten, ∃ n, IsRec n b := fun {F} h b hb => by
      obtain ⟨L, hL, hb⟩ := List.mem_flatten.1 hb
      obtain ⟨x, hx, rfl⟩ := List.mem_map.1 hL
      exact ⟨x.no, (h x hx).2 b hb⟩
    have e : (p.F.map (slotL (byS s m) (encB s d))).flatten = (q.F.map (slotL (byS s m) (encB s d))).flatten := e
    rw [hfl, hfl] at e
    refine Mg.ext (group r1 r2 k1 k2 (fun a ha a' ha' en ee => ?_) (recs_cut (all k1) (all k2) e))
    obtain ⟨f, hf, hno, hr, hok⟩ := o1 a ha
    obtain ⟨f', hf', hno', hr', hok'⟩ := o2 a' ha'
    rw [← en, hf] at hf'
    obtain rfl := Option.some.inj hf'
    rw [hRf hf, hRf (en ▸ hf)] at ee
    exact field_inj (enc_inj hsm d) hok hok' hr en ee
end Go.Proofs.YtipaangiehdgkaaGreatDoor.T12
/-
  A record's bytes lie where nothing lay before: the contract of the function that puts them, told of that; bytes, and lists of bytes of the call's own.
-/
namespace Go.Proofs.YtipaangiehdgkaaGreatDoor.T12
set_option maxRecDepth 100000

open Go.RowKit

open Go.Proofs.YtipaangiehdgkaaGreatDoor.T9

theorem of_own_ge {w : World} {base : Nat} {e : TypeId} {v : Value} {l : List UInt8} (h : w.ownsRow base e 1 v l.length (bs l)) : ∃ A c, v = .slice A l.length c ∧ SlB w A c l ∧ ∀ a, A = some a → base ≤ a.block := by
  obtain ⟨A, c, rfl, hs⟩ := SlB.of_own h
  refine ⟨A, c, rfl, hs, fun a ha => ?_⟩
  subst ha
  exact (own_blk h a.block rfl).1
/-- Bytes that lie at a block b, or behind it. -/
def By (b : Nat) (w : World) (l : List UInt8) (v : Value) : Prop := ∃ A c, v = .slice A l.length c ∧ SlB w A c l ∧ ∀ a, A = some a → 0 < l.length → b ≤ a.block
theorem By.less {b b' : Nat} {w : World} {l : List UInt8} {v : Value} (h : By b w l v) (hb : b' ≤ b) : By b' w l v := by
  obtain ⟨A, c, e, h1, h2⟩ := h
  exact ⟨A, c, e, h1, fun a ha hl => Nat.le_trans hb (h2 a ha hl)⟩
theorem By.on {b : Nat} {w w' : World} {l : List UInt8} {v : Value} (h : By b w l v) (hb : Below w.heap.size w w') : By b w' l v := by
  obtain ⟨A, c, e, h1, h2⟩ := h
  exact ⟨A, c, e, h1.on hb, h2⟩
theorem By.own {b : Nat} {w : World} {e : TypeId} {v : Value} {l : List UInt8} (h : w.ownsRow b e 1 v l.length (bs l)) : By b w l v := by
  obtain ⟨A, c, e, h1, h2⟩ := of_own_ge h
  exact ⟨A, c, e, h1, fun a ha _ => h2 a ha⟩
theorem By.nil (b : Nat) (w : World) : By b w [] (.slice none 0 0) := ⟨none, 0, rfl, SlB.nil w, fun a h => by cases h⟩
theorem slB_kept {w w' : World} {A : Option Addr} {c : Nat} {l : List UInt8} (h : SlB w A c l) (hs : w.heap.size ≤ w'.heap.size) (hk : ∀ a, A = some a → 0 < l.length → a.block < w.heap.size → w'.heap[a.block]? = w.heap[a.block]?) : SlB w' A c l := by
  unfold SlB at h ⊢
  obtain ⟨h1, h2, h3, h4, h5, h6⟩ := h
  refine ⟨h1, h2, h3, h4, fun ad ha hn => Nat.lt_of_lt_of_le (h5 ad ha hn) hs, fun ad ha k u hu => ?_⟩
  have hl : 0 < l.length := by
    have := (List.getElem?_eq_some_iff.1 hu).1
    rw [h1] at this
    omega
  have e := hk ad ha hl (h5 ad ha hl)
  exact (World.cell?_of_block (by rw [add_same_block]; exact e)).trans (h6 ad ha k u hu)
/-- Lists of bytes that lie elsewhere than block r. -/
def BL (r : Option Nat) (w : World) (l : List UInt8) (cs : List Value) : Prop := ∃ A c, cs = [.slice A l.length c] ∧ SlB w A c l ∧ ∀ a, A = some a → 0 < l.length → r ≠ some a.block
theorem BL.len (r : Option Nat) (w : World) (l : List UInt8) (cs : List Value) (h : BL r w l cs) : cs.length = 1 := by
  obtain ⟨A, c, rfl, -⟩ := h
  rfl
/-- A list of bytes' slices, of the call's own. -/
structure PB (b : Nat) (w : World) (v : Value) (ls : List (List UInt8)) (zs : List Value) : Prop where
  own : w.ownsRow b 22 1 v ls.length zs
  rows : T9.Rows (BL v.ownBlock w) ls zs
section

variable {b : Nat} {w w' : World} {v : Value} {ls : List (List UInt8)} {zs : List Value}

theorem PB.nil (b : Nat) (w : World) : PB b w (.slice none 0 0) [] [] := ⟨World.ownsRow_nil _ _ _ _, rfl⟩
theorem PB.on (h : PB b w v ls zs) (hb : Below w.heap.size w w') : PB b w' v ls zs :=
  ⟨own_hi h.own (hi_below b hb), h.rows.imp fun l cs hl => by
    obtain ⟨A, c, e, h1, h2⟩ := hl
    exact ⟨A, c, e, h1.on hb, h2⟩⟩
theorem PB.lt (h : PB b w v ls zs) (k : Nat) (hk : v.ownBlock = some k) : k < w.heap.size := (own_blk h.own k hk).2
theorem PB.less (h : PB b w v ls zs) {b' : Nat} (hb : b' ≤ b) : PB b' w v ls zs := ⟨own_less h.own hb, h.rows⟩
/-- Behind an append of bytes that are newer than the row. -/
theorem PB.app (h : PB b w v ls zs) {l : List UInt8} {u : Value} {b' : Nat} (hv : ∀ k, v.ownBlock = some k → k < b') (hl : By b' w l u) {g cap : Nat}
    (hrow : w'.ownsRow b 22 1 (.slice (some ⟨g, 0, none⟩) (ls.length + 1) cap) (ls.length + 1) (zs ++ [u])) (hg : w.grownBy w' v.ownBlock) (hat : v.ownBlock = some g ∨ w.heap.size ≤ g) : PB b w' (.slice (some ⟨g, 0, none⟩) (ls.length + 1) cap) (ls ++ [l]) (zs ++ [u]) := by
  have H : ∀ l cs, BL v.ownBlock w l cs → BL (some g) w' l cs := by
    rintro l cs ⟨A, c, e, h1, h2⟩
    refine ⟨A, c, e, slB_kept h1 hg.size fun a ha hn hlt => hg.block _ hlt fun e => h2 a ha hn e.symm, fun a ha hn e => ?_⟩
    injection e with e
    rcases hat with hat | hat
    · exact h2 a ha hn (by rw [hat, e])
    · have := h1.old a ha hn
      omega
  refine ⟨by rw [List.length_append]; exact hrow, (h.rows.imp H).append (Rows.single (H _ _ ?_))⟩
  obtain ⟨A, c, rfl, h1, h2⟩ := hl
  refine ⟨A, c, rfl, h1, fun a ha hn e => ?_⟩
  have h3 := hv a.block e
  have h4 := h2 a ha hn
  omega
end

set_option maxRecDepth 1000000 in
set_option maxHeartbeats 4000000 in
theorem rcputB_any (no wire : Int) (num : Nat) (f u : Int) (A : Option Addr) (c : Nat) (run : List UInt8) (hn1 : -9223372036854775808 ≤ no) (hn2 : no ≤ 9223372036854775807) (hw1 : -9223372036854775808 ≤ wire) (hw2 : wire ≤ 9223372036854775807)
    (hnum : num < 18446744073709551616) (hl : run.length ≤ 140737488351232) (w : World) (h1 : SlB w A c run) (T : Wires w) :
    Calls Tryz.prog 154 #[ZV no wire num f u, .slice A run.length c] w fun e w' => ∃ A' c', e = .returned (.tuple #[.slice A' (recL no wire num run).length c', .bool (putB no wire)]) ∧ SlB w' A' c' (recL no wire num run) ∧ (∀ a, A' = some a → 0 < (recL no wire num run).length → w.heap.size ≤ a.block) ∧ Below w.heap.size w w' := by
  obtain ⟨i0, hi, hz0, hz1, hz2⟩ := info_parts info_u8
  unfold ZV
  have h5 := putL_le5 (no := no) (wire := wire)
  by_cases hB : putB no wire = true
  · rw [recL_yes hB, hB]
    have hk := putB_iff.1 hB
    have hv10 := vput_len10 hnum
    have hr10 := vput_len10 (n := run.length) (by omega)
    have HB := Lib.hid hB
    clear hB
    generalize hP : putL no wire = P at *
    have HP := Lib.hid hP
    clear hP
    rcases hk with ⟨_, rfl | rfl | rfl | rfl⟩
    · -- a number
      have hR : restL 0 num run = vput num := by unfold restL; simp
      rw [hR]
      generalize hV : vput num = V at *
      have HV := Lib.hid hV
      clear hV hR
      have E1 : Hid (P.length + V.length = (P ++ V).length) := Lib.hid (by rw [List.length_append])
      have E2 : Hid (bs P ++ bs V = bs (P ++ V)) := Lib.hid (by rw [bs_append])
      generalize P ++ V = X at *
      go_enter Tryz.func154, Tryz.ntmps154
      go_wp2_with fail
      refine (tput_own no 0 hn1 hn2 hw1 hw2 _ (T.on (below_new _ _))).mono ?_
      rw [HP.out, HB.out]
      rintro e w1 ⟨v1, rfl, hown1, hb1⟩
      have hg1 := hb1.block w.heap.size (by simp)
      rw [heap_alloc_new] at hg1
      obtain ⟨q0, q1, q2, _, _⟩ := heap_cells hg1
      have hb1 := below_then (below_new w _) hb1
      go_wp2_with fail
      refine (put_reads num hnum _).mono ?_
      rw [HV.out]
      rintro e w2 ⟨A2, c2, rfl, hr2, hb2⟩
      have hown2 := own_mono5 (own_below5 hown1 hb2) (show w.heap.size ≤ _ by simp)
      have hb2 := below_then hb1 hb2
      go_wp2_with (at_builtin; refine wpList_app_sl rfl _ _ 22 rfl w.heap.size 5 i0 (.int .u8 0) 1 1 Tryz.underlying22 hi hz0 hz1 hz2 rfl (by omega) v1 P.length (bs P) rfl hown2 A2 V.length c2 (bs V) rfl hr2 (bs_one V) (by unfold maxLen; omega) (by omega) hb2.size ?_; intro v3 w3 hown3 hg3; have hb3 : Below w.heap.size w w3 := hb2.grown hg3 hb2.size (own_ge hown2); rw [E1.out, E2.out] at hown3; obtain ⟨A4, c4, rfl, hr4, hge4⟩ := of_own_ge hown3)
      go_ret2
      exact ⟨A4, c4, rfl, hr4, (fun a h _ => hge4 a h), hb3⟩
    · -- eight bytes
      have hR : restL 1 num run = fixb num 8 := by unfold restL; simp
      rw [hR]
      have hVl : (fixb num 8).length = 8 := fixb_length _ _
      generalize hV : fixb num 8 = V at *
      have HV := Lib.hid hV
      clear hV hR
      have E1 : Hid (P.length + 8 = (P ++ V).length) := Lib.hid (by rw [List.length_append, hVl])
      have E2 : Hid (bs P ++ bs V = bs (P ++ V)) := Lib.hid (by rw [bs_append])
      have hRD : ∀ (w : World) A c, SlB w A c V → Sl w A 8 c 1 (bs V) := fun w A c h => by unfold SlB at h; rw [hVl] at h; exact h
      clear hVl
      generalize P ++ V = X at *
      go_enter Tryz.func154, Tryz.ntmps154
      go_wp2_with fail
      refine (tput_own no 1 hn1 hn2 hw1 hw2 _ (T.on (below_new _ _))).mono ?_
      rw [HP.out, HB.out]
      rintro e w1 ⟨v1, rfl, hown1, hb1⟩
      have hg1 := hb1.block w.heap.size (by simp)
      rw [heap_alloc_new] at hg1
      obtain ⟨q0, q1, q2, _, _⟩ := heap_cells hg1
      have hb1 := below_then (below_new w _) hb1
      go_wp2_with fail
      refine (fixed_any num 8 (by omega) hnum _).mono ?_
      rw [HV.out]
      rintro e w2 ⟨A2, c2, rfl, hr2, hb2⟩
      have hown2 := own_mono5 (own_below5 hown1 hb2) (show w.heap.size ≤ _ by simp)
      have hb2 := below_then hb1 hb2
      have hr2' := hRD _ _ _ hr2
      clear hr2 hRD
      go_wp2_with (at_builtin; refine wpList_app_sl rfl _ _ 22 rfl w.heap.size 5 i0 (.int .u8 0) 1 1 Tryz.underlying22 hi hz0 hz1 hz2 rfl (by omega) v1 P.length (bs P) rfl hown2 A2 8 c2 (bs V) rfl hr2' (bs_one V) (by unfold maxLen; omega) (by omega) hb2.size ?_; intro v3 w3 hown3 hg3; have hb3 : Below w.heap.size w w3 := hb2.grown hg3 hb2.size (own_ge hown2); rw [E1.out, E2.out] at hown3; obtain ⟨A4, c4, rfl, hr4, hge4⟩ := of_own_ge hown3)
      go_ret2
      exact ⟨A4, c4, rfl, hr4, (fun a h _ => hge4 a h), hb3⟩
    · -- a run
      have hR : restL 2 num run = vput run.length ++ run := by unfold restL; simp
      rw [hR]
      have ew : IntKind.u64.wrap (run.length : Int) = run.length := by simp [IntKind.wrap, IntKind.signed, IntKind.bits]; omega
      generalize hV : vput run.length = V at *
      have HV := Lib.hid hV
      clear hV hR
      have E1 : Hid (P.length + V.length + run.length = (P ++ (V ++ run)).length) := Lib.hid (by simp only [List.length_append]; omega)
      have E2 : Hid (bs P ++ bs V ++ bs run = bs (P ++ (V ++ run))) := Lib.hid (by simp only [bs_append, List.append_assoc])
      generalize P ++ (V ++ run) = X at *
      go_enter Tryz.func154, Tryz.ntmps154
      go_wp2_with fail
      refine (tput_own no 2 hn1 hn2 hw1 hw2 _ (T.on (below_new _ _))).mono ?_
      rw [HP.out, HB.out]
      rintro e w1 ⟨v1, rfl, hown1, hb1⟩
      have hg1 := hb1.block w.heap.size (by simp)
      rw [heap_alloc_new] at hg1
      obtain ⟨q0, q1, q2, _, _⟩ := heap_cells hg1
      have hb1 := below_then (below_new w _) hb1
      go_wp2_with fail
      refine (put_reads run.length (by omega) _).mono ?_
      rw [HV.out]
      rintro e w2 ⟨A2, c2, rfl, hr2, hb2⟩
      have hown2 := own_mono5 (own_below5 hown1 hb2) (show w.heap.size ≤ _ by simp)
      have hb2 := below_then hb1 hb2
      have h1' := h1
      clear h1
      go_wp2_with (first
        | (at_builtin; refine wpList_app_sl rfl _ _ 22 rfl w.heap.size 5 i0 (.int .u8 0) 1 1 Tryz.underlying22 hi hz0 hz1 hz2 rfl (by omega) v1 P.length (bs P) rfl hown2 A2 V.length c2 (bs V) rfl hr2 (bs_one V) (by unfold maxLen; omega) (by omega) hb2.size ?_; intro v3 w3 hown3 hg3; have hb3 : Below w.heap.size w w3 := hb2.grown hg3 hb2.size (own_ge hown2); have h3 := h1'.on hb3; clear hr2)
        | (at_builtin; refine wpList_app_sl rfl _ _ 22 rfl w.heap.size 5 i0 (.int .u8 0) 1 1 Tryz.underlying22 hi hz0 hz1 hz2 rfl (by omega) v3 (P.length + V.length) (bs P ++ bs V) rfl hown3 A run.length c (bs run) rfl h3 (bs_one run) (by unfold maxLen; omega) (by omega) hb3.size ?_; intro v4 w4 hown4 hg4; have hb4 : Below w.heap.size w w4 := hb3.grown hg4 hb3.size (own_ge hown3); rw [E1.out, E2.out] at hown4; obtain ⟨A4, c4, rfl, hr4, hge4⟩ := of_own_ge hown4))
      go_ret2
      exact ⟨A4, c4, rfl, hr4, (fun a h _ => hge4 a h), hb4⟩
    · -- four bytes
      have hR : restL 5 num run = fixb num 4 := by unfold restL; simp
      rw [hR]
      have hVl : (fixb num 4).length = 4 := fixb_length _ _
      generalize hV : fixb num 4 = V at *
      have HV := Lib.hid hV
      clear hV hR
      have E1 : Hid (P.length + 4 = (P ++ V).length) := Lib.hid (by rw [List.length_append, hVl])
      have E2 : Hid (bs P ++ bs V = bs (P ++ V)) := Lib.hid (by rw [bs_append])
      have hRD : ∀ (w : World) A c, SlB w A c V → Sl w A 4 c 1 (bs V) := fun w A c h => by unfold SlB at h; rw [hVl] at h; exact h
      clear hVl
      generalize P ++ V = X at *
      go_enter Tryz.func154, Tryz.ntmps154
      go_wp2_with fail
      refine (tput_own no 5 hn1 hn2 hw1 hw2 _ (T.on (below_new _ _))).mono ?_
      rw [HP.out, HB.out]
      rintro e w1 ⟨v1, rfl, hown1, hb1⟩
      have hg1 := hb1.block w.heap.size (by simp)
      rw [heap_alloc_new] at hg1
      obtain ⟨q0, q1, q2, _, _⟩ := heap_cells hg1
      have hb1 := below_then (below_new w _) hb1
      go_wp2_with fail
      refine (fixed_any num 4 (by omega) hnum _).mono ?_
      rw [HV.out]
      rintro e w2 ⟨A2, c2, rfl, hr2, hb2⟩
      have hown2 := own_mono5 (own_below5 hown1 hb2) (show w.heap.size ≤ _ by simp)
      have hb2 := below_then hb1 hb2
      have hr2' := hRD _ _ _ hr2
      clear hr2 hRD
      go_wp2_with (at_builtin; refine wpList_app_sl rfl _ _ 22 rfl w.heap.size 5 i0 (.int .u8 0) 1 1 Tryz.underlying22 hi hz0 hz1 hz2 rfl (by omega) v1 P.length (bs P) rfl hown2 A2 4 c2 (bs V) rfl hr2' (bs_one V) (by unfold maxLen; omega) (by omega) hb2.size ?_; intro v3 w3 hown3 hg3; have hb3 : Below w.heap.size w w3 := hb2.grown hg3 hb2.size (own_ge hown2); rw [E1.out, E2.out] at hown3; obtain ⟨A4, c4, rfl, hr4, hge4⟩ := of_own_ge hown3)
      go_ret2
      exact ⟨A4, c4, rfl, hr4, (fun a h _ => hge4 a h), hb3⟩
  · have hB : putB no wire = false := by simpa using hB
    rw [recL_no hB, hB]
    have HB := Lib.hid hB
    have hP := putL_no hB
    clear hB
    go_enter Tryz.func154, Tryz.ntmps154
    go_wp2_with fail
    refine (tput_own no wire hn1 hn2 hw1 hw2 _ (T.on (below_new _ _))).mono ?_
    rw [HB.out, hP]
    rintro e w1 ⟨v1, rfl, hown1, hb1⟩
    go_wp2
    go_ret2
    exact ⟨none, 0, rfl, SlB.nil _, (fun a h => by cases h), below_then (below_new _ _) hb1⟩
end Go.Proofs.YtipaangiehdgkaaGreatDoor.T12
/-
  Parts put one behind the other: slices.Grow of nothing, slices.Concat, and encode's put, run and together.
-/
namespace Go.Proofs.YtipaangiehdgkaaGreatDoor.T12
set_option maxRecDepth 100000

open Go.RowKit

open Go.Proofs.YtipaangiehdgkaaGreatDoor.T9

theorem BL.on {r : Option Nat} {w w' : World} (hb : Below w.heap.size w w') (l : List UInt8) (cs : List Value) (h : BL r w l cs) : BL r w' l cs := by
  obtain ⟨A, c, e, h1, h2⟩ := h
  exact ⟨A, c, e, h1.on hb, h2⟩
theorem BL.any {r : Option Nat} {w : World} (l : List UInt8) (cs : List Value) (h : BL r w l cs) : BL none w l cs := by
  obtain ⟨A, c, e, h1, h2⟩ := h
  exact ⟨A, c, e, h1, fun a ha hn e => by cases e⟩
set_option maxRecDepth 1000000 in
set_option maxHeartbeats 4000000 in
theorem grow_nil (n : Nat) (hn : n ≤ 140737488351232) (w : World) :
    Calls Tryz.prog 129 #[.slice none 0 0, .int .i64 n] w fun e w' => ∃ v, e = .returned v ∧ w'.ownsRow w.heap.size 5 1 v 0 [] ∧ Below w.heap.size w w' := by
  obtain ⟨i0, hi, hz0, hz1, hz2⟩ := info_parts info_u8
  by_cases h0 : n = 0
  · subst h0
    go_enter Tryz.func129, Tryz.ntmps129
    go_wp2
    go_ret
    exact ⟨_, rfl, World.ownsRow_nil _ _ _ _, Below.refl _ _⟩
  · have h1 : ¬ ((n : Int) < 0) := by omega
    have h2 : (0 : Int) < (n : Int) := by omega
    have hrz : ∀ ty, (Builtin.append_ #[22, 3] ty #[.slice none 0 0, .int .i64 n]).run Tryz.prog w = .ok (.slice (some ⟨w.heap.size, 0, none⟩) n (grownCap w n 0 5)) (w.drew.alloc (.cells (Builtin.zeroCells (Value.int .u8 0).cells n ++ Builtin.zeroCells (Value.int .u8 0).cells (grownCap w n 0 5 - n)) 5)) := fun ty =>
      Lib.run_append_nil_zeros w 22 3 ty 5 i0 (.int .u8 0) .i64 .i64 Tryz.underlying22 Tryz.underlying3 hi hz0 n (by omega) (by omega) (by omega) (by rw [hz2]; omega)
    have hG1 : n ≤ grownCap w n 0 5 := grownCap_ge w _ _ _
    have hG2 : grownCap w n 0 5 ≤ maxLen := grownCap_le_maxLen w n 0 5 (by unfold maxLen; omega)
    obtain ⟨G, hG⟩ : ∃ G, G = grownCap w n 0 5 := ⟨_, rfl⟩
    rw [← hG] at hrz hG1 hG2
    have hsz : ∀ k, (Builtin.zeroCells (Value.int .u8 0).cells k).size = k := fun k => by simp [Builtin.zeroCells, Value.cells]
    obtain ⟨cs, hcs⟩ : ∃ cs, cs = Builtin.zeroCells (Value.int .u8 0).cells n ++ Builtin.zeroCells (Value.int .u8 0).cells (G - n) := ⟨_, rfl⟩
    have hcl : cs.size = G := by rw [hcs, Array.size_append, hsz, hsz]; omega
    rw [← hcs] at hrz
    have hG63 : G ≤ 9223372036854775807 := by unfold maxLen at hG2; omega
    clear hG hcs hsz
    go_enter Tryz.func129, Tryz.ntmps129
    go_wp2_with (at_builtin; refine Lib.wpList_append_run _ rfl _ _ 22 3 rfl _ _ rfl rfl _ _ (hrz _) ?_)
    go_ret
    refine ⟨_, rfl, ⟨by simp, .inr ⟨w.heap.size, G, cs, rfl, Nat.le_refl _, heap_alloc_new w.drew _, Nat.zero_le _, hG2, by rw [hcl]; omega, by simp⟩⟩, ((Below.refl _ _).drew).trans (below_new w.drew _)⟩
set_option maxRecDepth 1000000 in
set_option maxHeartbeats 4000000 in
theorem concat_any (A : Option Addr) (c : Nat) (ls : List (List UInt8)) (zs : List Value) (F : List UInt8) (hF : ls.flatten = F) (w : World) (hs : Sl w A ls.length c 1 zs) (hr : T9.Rows (BL none w) ls zs) (hsum : F.length ≤ 140737488351232) :
    Calls Tryz.prog 79 #[.slice A ls.length c] w fun e w' => ∃ v, e = .returned v ∧ w'.ownsRow w.heap.size 5 1 v F.length (bs F) ∧ Below w.heap.size w w' := by
  obtain ⟨i0, hi, hz0, hz1, hz2⟩ := info_parts info_u8
  have hle := hs.le
  have hcap := hs.cap
  unfold maxLen at hcap
  have HS := Lib.hid hs
  have HR := Lib.hid hr
  obtain ⟨pre, p0, pn, ps, pl⟩ : ∃ pre : Nat → List UInt8, pre 0 = [] ∧ pre ls.length = F ∧ (∀ k l, ls[k]? = some l → pre (k + 1) = pre k ++ l) ∧ (∀ k, (pre k).length ≤ F.length) := by
    refine ⟨fun k => (ls.take k).flatten, rfl, by rw [← hF]; simp, fun k l h => ?_, fun k => ?_⟩
    · show (ls.take (k + 1)).flatten = (ls.take k).flatten ++ l
      rw [List.take_add_one, h]; simp
    · have e : (ls.take k).flatten ++ (ls.drop k).flatten = F := by rw [← List.flatten_append, List.take_append_drop, hF]
      show (ls.take k).flatten.length ≤ F.length
      rw [← e, List.length_append]
      omega
  have HT := Lib.hid ps
  have HL := Lib.hid pl
  have HP := Lib.hid (And.intro p0 pn)
  have l0 : (pre 0).length = 0 := by rw [p0]; rfl
  clear hs hr ps pl p0 pn hF
  go_enter Tryz.func79, Tryz.ntmps79
  go_wp2
  go_loopw [3, 11] (fun z i wr => ∃ k : Nat, i = .int .i64 k ∧ k ≤ ls.length ∧ z = .int .i64 (((pre k).length : Nat) : Int) ∧ Below w.heap.size w wr) (fun _ i _ => ls.length - (intOf i).toNat)
  case atStart => exact ⟨0, rfl, by omega, by rw [l0]; rfl, Below.refl _ _⟩
  case round =>
    obtain ⟨k, rfl, hk, rfl, hbw⟩ := hrel
    by_cases hlt : k < ls.length
    · obtain ⟨l, hl⟩ : ∃ l, ls[k]? = some l := ⟨_, List.getElem?_eq_getElem hlt⟩
      obtain ⟨ad, u, rfl, hga, hcc, c0⟩ := row1 (BL.len none wr) (HS.out.on hbw) (HR.out.imp (BL.on hbw)) hl
      obtain ⟨A1, c1, hu, h1, -⟩ := hcc
      simp only [List.cons.injEq, and_true] at hu
      subst hu
      have h2 := HL.out (k + 1)
      have h3 := HT.out k l hl
      rw [h3, List.length_append] at h2
      obtain ⟨N, hN⟩ : ∃ N, N = (pre k).length := ⟨_, rfl⟩
      have HN : Hid ((pre (k + 1)).length = N + l.length) := Lib.hid (by rw [h3, List.length_append, hN])
      rw [← hN] at h2 ⊢
      have h4 : ¬ ((N : Int) + (l.length : Int) < 0) := by omega
      clear hN h3 hl h1 l0
      go_wp2
      refine ⟨⟨k + 1, by go_num, by omega, by rw [HN.out]; go_num, hbw⟩, by simp [intOf]; omega⟩
    · obtain rfl : k = ls.length := by omega
      rw [HP.out.2]
      have HG := Lib.hid (fun wx => grow_nil F.length hsum wx)
      clear l0
      go_wp2_with fail
      refine (HG.out _).mono ?_
      rintro e w1 ⟨v1, rfl, ho1, hb1⟩
      have hb1' := below_then hbw hb1
      have ho1' := own_less ho1 hbw.size
      clear HG ho1
      go_wp2
      go_loopw [6, 27] (fun v i wr => ∃ k : Nat, i = .int .i64 k ∧ k ≤ ls.length ∧ wr.ownsRow w.heap.size 5 1 v (pre k).length (bs (pre k)) ∧ Below w.heap.size w wr) (fun _ i _ => ls.length - (intOf i).toNat)
      case atStart => exact ⟨0, rfl, by omega, by rw [HP.out.1]; exact ho1', hb1'⟩
      case round =>
        obtain ⟨k, rfl, hk, ho2, hb2⟩ := hrel
        by_cases hlt2 : k < ls.length
        · obtain ⟨l, hl⟩ : ∃ l, ls[k]? = some l := ⟨_, List.getElem?_eq_getElem hlt2⟩
          obtain ⟨ad, u, rfl, hga, hcc, c0⟩ := row1 (BL.len none wr) (HS.out.on hb2) (HR.out.imp (BL.on hb2)) hl
          obtain ⟨A1, c1, hu, h1, -⟩ := hcc
          simp only [List.cons.injEq, and_true] at hu
          subst hu
          have h2 := HL.out (k + 1)
          have h3 := HT.out k l hl
          obtain ⟨X, hX⟩ : ∃ X, X = pre k := ⟨_, rfl⟩
          rw [← hX] at h3 ho2
          rw [h3] at h2
          rw [List.length_append] at h2
          have HX : Hid (pre (k + 1) = X ++ l) := Lib.hid h3
          clear hX h3 hl
          go_wp2_with (at_builtin; refine wpList_app_sl rfl _ _ 22 rfl w.heap.size 5 i0 (.int .u8 0) 1 1 Tryz.underlying22 hi hz0 hz1 hz2 rfl (by omega) _ X.length (bs X) rfl ho2 A1 l.length c1 (bs l) rfl h1 (bs_one l) (by unfold maxLen; omega) (by omega) hb2.size ?_; intro v3 w3 hown3 hg3)
          have hb3 : Below w.heap.size w w3 := hb2.grown hg3 hb2.size (own_ge ho2)
          refine ⟨⟨k + 1, by go_num, by omega, ?_, hb3⟩, by simp [intOf]; omega⟩
          rw [HX.out, List.length_append, bs_append]
          exact hown3
        · obtain rfl : k = ls.length := by omega
          rw [HP.out.2] at ho2
          go_wp2
          go_ret
          exact ⟨_, rfl, ho2, hb2⟩
set_option maxRecDepth 1000000 in
set_option maxHeartbeats 4000000 in
theorem together_any (A : Option Addr) (c : Nat) (ls : List (List UInt8)) (zs : List Value) (F : List UInt8) (hF : ls.flatten = F) (w : World) (hs : Sl w A ls.length c 1 zs) (hr : T9.Rows (BL none w) ls zs) (hsum : F.length ≤ 140737488351232) :
    Calls Tryz.prog 49 #[.slice A ls.length c] w fun e w' => ∃ v, e = .returned v ∧ By w.heap.size w' F v ∧ Below w.heap.size w w' := by
  have HC := Lib.hid (fun wx (h : Below w.heap.size w wx) => concat_any A c ls zs F hF wx (hs.on h) (hr.imp (BL.on h)) hsum)
  clear hs hr hF
  go_enter Tryz.func49, Tryz.ntmps49
  go_wp2_with fail
  refine (HC.out w (Below.refl _ _)).mono ?_
  rintro e w1 ⟨v, rfl, ho, hb⟩
  have HY := Lib.hid (By.own ho)
  clear ho
  go_wp2
  go_ret
  exact ⟨v, rfl, HY.out, hb⟩
set_option maxRecDepth 1000000 in
set_option maxHeartbeats 4000000 in
theorem put_any (no wire : Int) (num : Nat) (f u : Int) (A : Option Addr) (c : Nat) (run : List UInt8) (hn1 : inI no) (hw1 : inI wire) (hnum : num < 18446744073709551616) (hl : run.length ≤ 140737488351232) (w : World) (h1 : SlB w A c run) (T : Wires w) :
    Calls Tryz.prog 108 #[ZV no wire num f u, .slice A run.length c] w fun e w' => ∃ v, e = .returned v ∧ By w.heap.size w' (recL no wire num run) v ∧ Below w.heap.size w w' := by
  have X1 := heap_alloc_new w (.cells #[.int .i64 no, .int .i64 wire, .int .u64 num, .int .i64 f, .int .i64 u] 62)
  have LBD := below_new w (.cells #[.int .i64 no, .int .i64 wire, .int .u64 num, .int .i64 f, .int .i64 u] 62)
  have HP := Lib.hid (fun wx (h : Below w.heap.size w wx) => rcputB_any no wire num f u A c run hn1.1 hn1.2 hw1.1 hw1.2 hnum hl wx (h1.on h) (T.on h))
  obtain ⟨q0, q1, q2, q3, q4⟩ := heap_cells X1
  clear h1
  unfold ZV at HP ⊢
  go_enter Tryz.func108, Tryz.ntmps108
  go_wp2_with fail
  refine (HP.out _ LBD).mono ?_
  rintro e w1 ⟨A', c', rfl, hr, hge, hb⟩
  have HY : Hid (By w.heap.size w1 (recL no wire num run) (.slice A' (recL no wire num run).length c')) := Lib.hid ⟨A', c', rfl, hr, fun a ha hn => Nat.le_trans LBD.size (hge a ha hn)⟩
  clear hr hge
  go_wp2
  go_ret
  exact ⟨_, rfl, HY.out, below_then LBD hb⟩
set_option maxRecDepth 1000000 in
set_option maxHeartbeats 4000000 in
theorem run_any (no : Int) (A : Option Addr) (c : Nat) (ls : List (List UInt8)) (zs : List Value) (F : List UInt8) (hF : ls.flatten = F) (w : World) (hn1 : inI no) (hs : Sl w A ls.length c 1 zs) (hr : T9.Rows (BL none w) ls zs) (hsum : F.length ≤ 140737488351232) (T : Wires w) :
    Calls Tryz.prog 61 #[.int .i64 no, .slice A ls.length c] w fun e w' => ∃ v, e = .returned v ∧ By w.heap.size w' (runL no F) v ∧ Below w.heap.size w w' := by
  have HC := Lib.hid (together_any A c ls zs F hF w hs hr hsum)
  have HP : Hid (∀ A' c' wx, Below w.heap.size w wx → SlB wx A' c' F → Calls Tryz.prog 108 #[.agg #[.int .i64 no, .int .i64 2, .int .u64 0, .int .i64 0, .int .i64 0], .slice A' F.length c'] wx fun e w' => ∃ v, e = .returned v ∧ By wx.heap.size w' (runL no F) v ∧ Below wx.heap.size wx w') :=
    Lib.hid fun A' c' wx h h1 => put_any no 2 0 0 0 A' c' F hn1 ⟨by decide, by decide⟩ (by decide) hsum wx h1 (T.on h)
  clear hs hr hF
  go_enter Tryz.func61, Tryz.ntmps61
  go_wp2_with fail
  refine HC.out.mono ?_
  rintro e w1 ⟨v, rfl, ⟨A', c', rfl, h1, -⟩, hb⟩
  have HP1 := Lib.hid (HP.out A' c' w1 hb h1)
  clear h1
  go_wp2_with fail
  refine HP1.out.mono ?_
  rintro e w2 ⟨v, rfl, hy, hb2⟩
  have HY := Lib.hid (By.less hy hb.size)
  clear hy
  go_wp2
  go_ret
  exact ⟨v, rfl, HY.out, below_then hb hb2⟩
theorem isCounting_any (k : Int) (w : World) : Calls Tryz.prog 76 #[.int .i64 k] w fun e w' => e = .returned (.bool (cnt k)) ∧ Below w.heap.size w w' := by
  have HO := Lib.hid (fun wx => of_any k 0 (by omega) (by omega) wx)
  obtain ⟨b, hb⟩ : ∃ b, cnt k = b := ⟨_, rfl⟩
  rw [hb] at HO ⊢
  clear hb
  go_enter Tryz.func76, Tryz.ntmps76
  go_wp2_with fail
  refine (HO.out _).mono ?_
  rintro e w1 ⟨rfl, hb1⟩
  go_wp2
  go_ret
  exact ⟨rfl, hb1⟩
end Go.Proofs.YtipaangiehdgkaaGreatDoor.T12
