/-
  How many bytes all texts have: the law's own texts.
-/
import Derived.Test.YtipaangiehdgkaaGreatDoorEncNor
import Derived.Test.YtipaangiehdgkaaGreatDoorTrFew
import Derived.Test.YtipaangiehdgkaaGreatDoorVarRget
import Derived.Deep.RegionHeldLaw
import Derived.Deep.RegionLaw
import Derived.Deep.RegionHeld3
import Derived.Test.YtipaangiehdgkaaGreatDoorTabMath
import Derived.Lib.AppendZeros
import Derived.Test.YtipaangiehdgkaaGreatDoorTyMath
import Derived.Lib.ItoaNum
import Derived.Lib.ParseIntBTie
import Derived.Lib.AtoiAllCases
namespace Go.Proofs.YtipaangiehdgkaaGreatDoor.T12
set_option maxRecDepth 100000

open Go.RowKit

open Go.Proofs.YtipaangiehdgkaaGreatDoor.T9

theorem step_app_sl {P : Program} {w : World} {ops : Array Oper} {o : Oper} {a : Act} {K : Act → World → Prop} {Q : Exit → Act → World → Prop} {E : Prop}
    (hg : o.guard = none) (s x : Operand) (t : TypeId) (hop : o.op = .call { callee := .builtin .append, args := #[s, x], argTypes := #[t, t] })
    (base : Nat) (e : TypeId) (i : TypeInfo) (z : Value) (size bytes : Nat) (ht : P.underlying t = some (.slice e)) (hi : P.info? e = some i) (hz : i.zero = some z)
    (hsize : i.size = size) (hby : i.bytes = bytes) (hzs : z.cells.size = size) (hsz : 0 < size)
    (v : Value) (n : Nat) (xs : List Value) (hs : a.eval s = v) (hown : w.ownsRow base e size v n xs)
    (A : Option Addr) (m c : Nat) (news : List Value) (hx : a.eval x = .slice A m c) (hr : Sl w A m c size news) (h1 : ∀ u ∈ news, u.oneCell' = true)
    (h63 : n + m ≤ maxLen) (hbytes : (n + m) * bytes ≤ 140737488355328) (hbase : base ≤ w.heap.size)
    (h : ∀ v' w', w'.ownsRow base e size v' (n + m) (xs ++ news) → w.grownBy w' v.ownBlock → K (a.put o.dst v') w') :
    if Region.wanted o (yielded ops a.tmps) = true then Oper.wp P o a w K Q else E := by
  have key : ∃ v' w', (Builtin.append_ #[t, t] o.type #[v, .slice A m c]).run P w = .ok v' w' ∧ w'.ownsRow base e size v' (n + m) (xs ++ news) ∧ w.grownBy w' v.ownBlock := by
    cases A with
    | none =>
      obtain ⟨rfl, rfl, rfl⟩ := hr.none_len
      exact ⟨v, w, run_append_owned_none (P := P) w base t o.type e i size ht hi v n xs hown, by simpa using hown, World.grownBy.refl w _⟩
    | some ad =>
      obtain ⟨v', w', hrun, h2, h3, _⟩ := run_append_own (P := P) w base t o.type e i z size bytes ht hi hz hsize hby hzs hsz v n xs hown ad m c news hr.len (hr.cell ad rfl) h1 h63 hbytes hbase
      exact ⟨v', w', hrun, h2, h3⟩
  obtain ⟨v', w', hrun, h2, h3⟩ := key
  have hw : Region.wanted o (yielded ops a.tmps) = true := by simp [Region.wanted, hg]
  rw [if_pos hw]
  have hex : (execOp a.eval o).run P w = .ok (.value v') w' := by simp [execOp, hop, resolve, invoke, builtin, hs, hx, hrun, Result.andThen]
  unfold Oper.wp
  rw [hex]
  exact h v' w' h2 h3
def g12 (v : Vl') : Nat := sm (v.M.map Mg.txt)
theorem tV_g (v : Vl') : tV v = v.s.length + g12 v := rfl
theorem tS_split (s : So) : tS s = sm ((s.K ++ s.V).map tV) := by
  unfold tS
  rw [← sm_append, ← List.map_append]
theorem cnt_in {m : Mg} {s : So} {v : Vl'} {x : Mg} (hs : s ∈ m.F) (hv : v ∈ s.K ++ s.V) (hx : x ∈ v.M) : x.cnt ≤ m.cnt := by
  have h1 := cS_le hs
  have h2 := cV_le (List.mem_append.1 hv)
  have h3 := cnt_le hx
  omega
theorem txt_mem {m : Mg} {s : So} {v : Vl'} {x : Mg} (hs : s ∈ m.F) (hv : v ∈ s.K ++ s.V) (hx : x ∈ v.M) : Mg.txt x ≤ Mg.txt m := by
  have h1 := sm_mem (g := tS) hs
  have h2 := sm_mem (g := tV) hv
  have h3 := sm_mem (g := Mg.txt) hx
  rw [Mg.txt_eq m]
  rw [tS_split] at h1
  rw [tV_g] at h2
  unfold g12 at h2
  omega
/-- texts, of messages within so many levels. -/
def TxtH (B D : Nat) : Prop := ∀ (m : Mg) (u : Value) (w : World), B ≤ w.heap.size → MRd B w D m u → m.cnt ≤ 100000 → Mg.txt m ≤ 4611686018427387904 → Calls Tryz.prog 26 #[.agg #[u]] w fun e w' => e = .returned (.int .i64 (Mg.txt m : Nat)) ∧ Below w.heap.size w w'
set_option maxRecDepth 1000000 in
set_option maxHeartbeats 8000000 in
theorem txt_step {B D : Nat} (H : TxtH B D) : TxtH B (D + 1) := by
  rintro m u w hB ⟨u', hu, hl⟩ hcm htm
  simp only [List.cons.injEq, and_true] at hu
  subst hu
  obtain ⟨i0, hi, hz0, hz1, hz2⟩ := info_parts info_val
  obtain ⟨A, c, xs, rfl, hs, hbl, hr, hn⟩ := hl.open_
  have X1 := heap_alloc_new w (.cells #[.slice A m.F.length c] 36)
  have LBD := below_new w (.cells #[.slice A m.F.length c] 36)
  have HS := Lib.hid hs
  have HR := Lib.hid hr
  have HBB := Lib.hid hbl
  have HH := Lib.hid H
  have HTM := Lib.hid htm
  clear hs hr hl hbl H
  go_enter Tryz.func26, Tryz.ntmps26
  go_wp2
  obtain ⟨W0, hW0⟩ : ∃ W, W = w.alloc (.cells #[.slice A m.F.length c] 36) := ⟨_, rfl⟩
  rw [← hW0] at X1 LBD ⊢
  have hX := box_lt X1
  clear hW0
  have hsz : sm (m.F.map tS) ≤ 4611686018427387904 := by rw [← Mg.txt_eq]; exact htm
  go_loopw [3, 4, 5, 6, 7] (fun n i l k j wr => ∃ p : Nat, i = .int .i64 p ∧ p ≤ m.F.length ∧ n = .int .i64 ((sm ((m.F.take p).map tS) : Nat) : Int) ∧ Below W0.heap.size W0 wr) (fun _ i _ _ _ _ => m.F.length - (intOf i).toNat)
  case atStart => exact ⟨0, rfl, by omega, rfl, Below.refl _ _⟩
  case round =>
    obtain ⟨p, rfl, hp, rfl, hbw⟩ := hrel
    have g0 := bx1 (box_on X1 hbw)
    have HBW := Lib.hid (LBD.trans (hbw.mono LBD.size))
    by_cases hlt : p < m.F.length
    · obtain ⟨s, hs⟩ : ∃ s, m.F[p]? = some s := ⟨_, List.getElem?_eq_getElem hlt⟩
      obtain ⟨ad, x, y, z, rfl, hga, hcc, c0, c1, c2⟩ := row3 sAt.len (sl_low HS.out HBB.out (Lo.below HBW.out hB)) (HR.out.imp fun a cs h => SRd.low (Lo.below HBW.out hB) h) hs
      obtain ⟨u1, u2, hu, hlk, hlv⟩ := hcc
      simp only [List.cons.injEq, and_true] at hu
      obtain ⟨rfl, rfl, rfl⟩ := hu
      obtain ⟨AK, cK, xsK, rfl, hsK, hbK, hrK, hnK⟩ := hlk.open_
      obtain ⟨AV, cV_, xsV, rfl, hsV, hbV, hrV, hnV⟩ := hlv.open_
      have hadB : ad.block < B := HBB.out ad rfl (by omega)
      have hadX : (ad.add (p * 3)).block < W0.heap.size := by rw [add_same_block]; omega
      have hcs := cS_le (List.mem_of_getElem? hs)
      have hcl := cS_len (s := s)
      have h11 := Rows.one vAt.one hrK
      have h12_ := Rows.one vAt.one hrV
      have HSK := Lib.hid hsK
      have HSV := Lib.hid hsV
      have HRK := Lib.hid (And.intro hrK hrV)
      have HBK := Lib.hid (And.intro hbK hbV)
      have hst := sm_take_next tS hs
      have hle := sm_take_le m.F (p + 1) tS
      rw [tS_split] at hst
      have HCN := Lib.hid (fun v x (hv : v ∈ s.K ++ s.V) (hx : x ∈ v.M) => Nat.le_trans (cnt_in (List.mem_of_getElem? hs) hv hx) hcm)
      have HTN := Lib.hid (fun v x (hv : v ∈ s.K ++ s.V) (hx : x ∈ v.M) => Nat.le_trans (txt_mem (List.mem_of_getElem? hs) hv hx) HTM.out)
      obtain ⟨N, hN⟩ : ∃ N, N = sm ((m.F.take p).map tS) := ⟨_, rfl⟩
      have hN' : sm (List.take p (List.map tS m.F)) = N := by rw [hN, List.map_take]
      rw [← hN] at hst
      (try rw [hN']); (try rw [← hN])
      have i1 : (0 : Int) ≤ (p : Int) := by omega
      have i2 : (p : Int) < (m.F.length : Int) := by omega
      clear hN hN' hlk hlv hs hsK hbK hrK hsV hbV hrV c0
      go_wp2_with fail
      refine wp_region_held_drew (S := (fun w' => w'.cell? ⟨w.heap.size, 0, none⟩ = some (.slice (some ad) m.F.length c) ∧ w'.cell? ⟨(ad.add (p * 3)).block, (ad.add (p * 3)).off + 1, none⟩ = some (.slice AK s.K.length cK) ∧ w'.cell? ⟨(ad.add (p * 3)).block, (ad.add (p * 3)).off + 2, none⟩ = some (.slice AV s.V.length cV_))) (by kernel_rfl) (⟨g0, c1, c2⟩) (fun hHeld => ?_)
      refine wpAnyH_take (i := 0) (oi := { dst := some 15, op := Go.Op.fieldAddr 36 (Go.Operand.tmp 1) 0, type := 0, pos := "law.go:33", after := #[], guard := none }) (v := ?_) rfl (by kernel_rfl) (by kernel_rfl) (by kernel_rfl) (fun _ _ _ h => h) (Or.inl ⟨by rfl, ?_⟩) hHeld ?_
      rotate_left
      · intro w hSw
        (try dsimp only at hSw)
        go_simp
        all_goals with_reducible rfl
      (try simp only [Act.put, List.setIfInBounds_toArray, List.set_cons_zero, List.set_cons_succ])
      refine wpAnyH_take (i := 1) (oi := { dst := some 16, op := Go.Op.load 34 (Go.Operand.tmp 15), type := 34, pos := "law.go:33", after := #[{ on := 0, ground := Go.Ground.data }], guard := none }) (v := ?_) rfl (by kernel_rfl) (by kernel_rfl) (by kernel_rfl) (fun _ _ _ h => h) (Or.inl ⟨by rfl, ?_⟩) hHeld ?_
      rotate_left
      · intro w hSw
        (try dsimp only at hSw)
        go_simp
        all_goals with_reducible rfl
      (try simp only [Act.put, List.setIfInBounds_toArray, List.set_cons_zero, List.set_cons_succ])
      refine wpAnyH_take (i := 2) (oi := { dst := some 17, op := Go.Op.move (Go.Operand.tmp 4), type := 3, pos := "law.go:33", after := #[], guard := none }) (v := ?_) rfl (by kernel_rfl) (by kernel_rfl) (by kernel_rfl) (fun _ _ _ h => h) (Or.inl ⟨by rfl, ?_⟩) hHeld ?_
      rotate_left
      · intro w hSw
        (try dsimp only at hSw)
        go_simp
        all_goals with_reducible rfl
      (try simp only [Act.put, List.setIfInBounds_toArray, List.set_cons_zero, List.set_cons_succ])
      refine wpAnyH_take (i := 3) (oi := { dst := some 18, op := Go.Op.indexAddr 34 (Go.Operand.tmp 16) (Go.Operand.tmp 17), type := 0, pos := "law.go:33", after := #[{ on := 1, ground := Go.Ground.data }, { on := 2, ground := Go.Ground.data }], guard := none }) (v := ?_) rfl (by kernel_rfl) (by kernel_rfl) (by kernel_rfl) (fun _ _ _ h => h) (Or.inl ⟨by rfl, ?_⟩) hHeld ?_
      rotate_left
      · intro w hSw
        (try dsimp only at hSw)
        go_simp
        all_goals with_reducible rfl
      (try simp only [Act.put, List.setIfInBounds_toArray, List.set_cons_zero, List.set_cons_succ])
      refine wpAnyH_take (i := 4) (oi := { dst := some 19, op := Go.Op.fieldAddr 48 (Go.Operand.tmp 18) 1, type := 0, pos := "law.go:33", after := #[{ on := 3, ground := Go.Ground.data }], guard := none }) (v := ?_) rfl (by kernel_rfl) (by kernel_rfl) (by kernel_rfl) (fun _ _ _ h => h) (Or.inl ⟨by rfl, ?_⟩) hHeld ?_
      rotate_left
      · intro w hSw
        (try dsimp only at hSw)
        go_simp
        all_goals with_reducible rfl
      (try simp only [Act.put, List.setIfInBounds_toArray, List.set_cons_zero, List.set_cons_succ])
      refine wpAnyH_take (i := 5) (oi := { dst := some 20, op := Go.Op.load 46 (Go.Operand.tmp 19), type := 46, pos := "law.go:33", after := #[{ on := 4, ground := Go.Ground.data }], guard := none }) (v := ?_) rfl (by kernel_rfl) (by kernel_rfl) (by kernel_rfl) (fun _ _ _ h => h) (Or.inl ⟨by rfl, ?_⟩) hHeld ?_
      rotate_left
      · intro w hSw
        (try dsimp only at hSw)
        go_simp
        all_goals with_reducible rfl
      (try simp only [Act.put, List.setIfInBounds_toArray, List.set_cons_zero, List.set_cons_succ])
      refine wpAnyH_take (i := 7) (oi := { dst := some 22, op := Go.Op.fieldAddr 36 (Go.Operand.tmp 1) 0, type := 0, pos := "law.go:33", after := #[], guard := none }) (v := ?_) rfl (by kernel_rfl) (by kernel_rfl) (by kernel_rfl) (fun _ _ _ h => h) (Or.inl ⟨by rfl, ?_⟩) hHeld ?_
      rotate_left
      · intro w hSw
        (try dsimp only at hSw)
        go_simp
        all_goals with_reducible rfl
      (try simp only [Act.put, List.setIfInBounds_toArray, List.set_cons_zero, List.set_cons_succ])
      refine wpAnyH_take (i := 8) (oi := { dst := some 23, op := Go.Op.load 34 (Go.Operand.tmp 22), type := 34, pos := "law.go:33", after := #[{ on := 7, ground := Go.Ground.data }], guard := none }) (v := ?_) rfl (by kernel_rfl) (by kernel_rfl) (by kernel_rfl) (fun _ _ _ h => h) (Or.inl ⟨by rfl, ?_⟩) hHeld ?_
      rotate_left
      · intro w hSw
        (try dsimp only at hSw)
        go_simp
        all_goals with_reducible rfl
      (try simp only [Act.put, List.setIfInBounds_toArray, List.set_cons_zero, List.set_cons_succ])
      refine wpAnyH_take (i := 9) (oi := { dst := some 24, op := Go.Op.move (Go.Operand.tmp 4), type := 3, pos := "law.go:33", after := #[], guard := none }) (v := ?_) rfl (by kernel_rfl) (by kernel_rfl) (by kernel_rfl) (fun _ _ _ h => h) (Or.inl ⟨by rfl, ?_⟩) hHeld ?_
      rotate_left
      · intro w hSw
        (try dsimp only at hSw)
        go_simp
        all_goals with_reducible rfl
      (try simp only [Act.put, List.setIfInBounds_toArray, List.set_cons_zero, List.set_cons_succ])
      refine wpAnyH_take (i := 10) (oi := { dst := some 25, op := Go.Op.indexAddr 34 (Go.Operand.tmp 23) (Go.Operand.tmp 24), type := 0, pos := "law.go:33", after := #[{ on := 8, ground := Go.Ground.data }, { on := 9, ground := Go.Ground.data }], guard := none }) (v := ?_) rfl (by kernel_rfl) (by kernel_rfl) (by kernel_rfl) (fun _ _ _ h => h) (Or.inl ⟨by rfl, ?_⟩) hHeld ?_
      rotate_left
      · intro w hSw
        (try dsimp only at hSw)
        go_simp
        all_goals with_reducible rfl
      (try simp only [Act.put, List.setIfInBounds_toArray, List.set_cons_zero, List.set_cons_succ])
      refine wpAnyH_take (i := 11) (oi := { dst := some 26, op := Go.Op.fieldAddr 48 (Go.Operand.tmp 25) 2, type := 0, pos := "law.go:33", after := #[{ on := 10, ground := Go.Ground.data }], guard := none }) (v := ?_) rfl (by kernel_rfl) (by kernel_rfl) (by kernel_rfl) (fun _ _ _ h => h) (Or.inl ⟨by rfl, ?_⟩) hHeld ?_
      rotate_left
      · intro w hSw
        (try dsimp only at hSw)
        go_simp
        all_goals with_reducible rfl
      (try simp only [Act.put, List.setIfInBounds_toArray, List.set_cons_zero, List.set_cons_succ])
      refine wpAnyH_take (i := 12) (oi := { dst := some 27, op := Go.Op.load 46 (Go.Operand.tmp 26), type := 46, pos := "law.go:33", after := #[{ on := 11, ground := Go.Ground.data }], guard := none }) (v := ?_) rfl (by kernel_rfl) (by kernel_rfl) (by kernel_rfl) (fun _ _ _ h => h) (Or.inl ⟨by rfl, ?_⟩) hHeld ?_
      rotate_left
      · intro w hSw
        (try dsimp only at hSw)
        go_simp
        all_goals with_reducible rfl
      (try simp only [Act.put, List.setIfInBounds_toArray, List.set_cons_zero, List.set_cons_succ])
      refine wpAnyH_ready (rs := [6]) (by kernel_rfl) (by simp) ?_
      refine AllReadyH.cons (o := { dst := some 21, op := Go.Op.call { callee := Go.Callee.builtin Go.Builtin.append, args := #[Go.Operand.const (Go.Value.slice none 0 0), Go.Operand.tmp 20], argTypes := #[46, 46] }, type := 46, pos := "law.go:33", after := #[{ on := 5, ground := Go.Ground.data }], guard := none }) rfl (fun K hK => ?_) AllReadyH.nil
      refine step_app_sl rfl _ _ 46 rfl W0.heap.size 51 i0 (.agg #[.int .i64 0, .string ⟨#[]⟩, .slice none 0 0]) 3 48 Tryz.underlying46 hi hz0 hz1 hz2 rfl (by omega) (.slice none 0 0) 0 [] (by simp [Act.eval, Act.put]) (World.ownsRow_nil _ _ _ _) AK s.K.length cK xsK (by simp [Act.eval, Act.put]) (HSK.out.on ((Below.refl _ _).drew)) h11 (by unfold maxLen; omega) (by omega) hbw.size ?_
      intro v2 w2 hown2 hg2
      rw [Nat.zero_add] at hown2
      have hb2 : Below wr.heap.size wr w2 := ((Below.refl _ _).drew).trans ⟨hg2.os, hg2.tape, hg2.output, hg2.size, fun k hk => hg2.block k hk (by simp [Value.ownBlock])⟩
      have HV2 := Lib.hid (HSV.out.on hb2)
      refine hK.out _ _ (⟨cell_on hb2 g0, cell_on hb2 c1, cell_on hb2 c2⟩) (fun hHeld => ?_)
      clear hK K
      (try simp only [Act.put, List.setIfInBounds_toArray, List.set_cons_zero, List.set_cons_succ])
      refine wpAnyH_ready (rs := [13]) (by kernel_rfl) (by simp) ?_
      refine AllReadyH.cons (o := { dst := some 28, op := Go.Op.call { callee := Go.Callee.builtin Go.Builtin.append, args := #[Go.Operand.tmp 21, Go.Operand.tmp 27], argTypes := #[46, 46] }, type := 46, pos := "law.go:33", after := #[{ on := 6, ground := Go.Ground.data }, { on := 12, ground := Go.Ground.data }, { on := 6, ground := Go.Ground.chain }], guard := none }) rfl (fun K hK => ?_) AllReadyH.nil
      refine step_app_sl rfl _ _ 46 rfl W0.heap.size 51 i0 (.agg #[.int .i64 0, .string ⟨#[]⟩, .slice none 0 0]) 3 48 Tryz.underlying46 hi hz0 hz1 hz2 rfl (by omega) v2 s.K.length _ (by simp [Act.eval, Act.put]) hown2 AV s.V.length cV_ xsV (by simp [Act.eval, Act.put]) HV2.out h12_ (by unfold maxLen; omega) (by omega) (Nat.le_trans hbw.size hb2.size) ?_
      intro v3 w3 hown3 hg3
      have hb3 : Below W0.heap.size w2 w3 := below_app hown2 hg3 (Nat.le_trans hbw.size hb2.size)
      have k1 : w3.cell? ⟨w.heap.size, 0, none⟩ = some (.slice (some ad) m.F.length c) := (World.cell?_of_block (hb3.block _ hX)).trans (cell_on hb2 g0)
      have k2 := (World.cell?_of_block (a := ⟨(ad.add (p * 3)).block, (ad.add (p * 3)).off + 1, none⟩) (hb3.block _ hadX)).trans (cell_on hb2 c1)
      have k3 := (World.cell?_of_block (a := ⟨(ad.add (p * 3)).block, (ad.add (p * 3)).off + 2, none⟩) (hb3.block _ hadX)).trans (cell_on hb2 c2)
      refine hK.out _ _ (⟨k1, k2, k3⟩) (fun hHeld => ?_)
      clear hK K
      (try simp only [Act.put, List.setIfInBounds_toArray, List.set_cons_zero, List.set_cons_succ])
      refine wpAnyH_take (i := 14) (oi := { dst := some 5, op := Go.Op.assign (Go.Operand.tmp 28), type := 46, pos := "law.go:33", after := #[{ on := 13, ground := Go.Ground.data }, { on := 13, ground := Go.Ground.chain }, { on := 0, ground := Go.Ground.phase }, { on := 1, ground := Go.Ground.phase }, { on := 2, ground := Go.Ground.phase }, { on := 3, ground := Go.Ground.phase }, { on := 4, ground := Go.Ground.phase }, { on := 5, ground := Go.Ground.phase }, { on := 6, ground := Go.Ground.phase }, { on := 7, ground := Go.Ground.phase }, { on := 8, ground := Go.Ground.phase }, { on := 9, ground := Go.Ground.phase }, { on := 10, ground := Go.Ground.phase }, { on := 11, ground := Go.Ground.phase }, { on := 12, ground := Go.Ground.phase }, { on := 13, ground := Go.Ground.phase }], guard := none }) (v := ?_) rfl (by kernel_rfl) (by kernel_rfl) (by kernel_rfl) (fun _ _ _ h => h) (Or.inl ⟨by rfl, ?_⟩) hHeld ?_
      rotate_left
      · intro w hSw
        (try dsimp only at hSw)
        go_simp
        all_goals with_reducible rfl
      (try simp only [Act.put, List.setIfInBounds_toArray, List.set_cons_zero, List.set_cons_succ])
      refine wpAnyH_done (by kernel_rfl) ?_ _
      obtain ⟨L, hL⟩ : ∃ L, s.K ++ s.V = L := ⟨_, rfl⟩
      have HB2 := Lib.hid ((HBW.out.trans (hb2.mono HBW.out.size)).trans (hb3.mono LBD.size))
      have HB3 := Lib.hid ((hbw.trans (hb2.mono hbw.size)).trans hb3)
      have hLl : s.K.length + s.V.length = L.length := by rw [← hL, List.length_append]
      rw [hLl] at hown3
      have hr7 : T9.Rows (VAt (Rd B w3) D) L (xsK ++ xsV) := by
        rw [← hL]
        have hlo : Lo B wr w3 := (Lo.below hb2 (Nat.le_trans hB HBW.out.size)).trans (Lo.of (hb3.mono (Nat.le_trans hB LBD.size)))
        exact (HRK.out.1.imp fun a cs h => VRd.low hlo h).append (HRK.out.2.imp fun a cs h => VRd.low hlo h)
      rw [hL] at hst HCN HTN
      have HST := Lib.hid hst
      have hmx : N + sm (L.map tV) ≤ 4611686018427387904 := by omega
      have hLm : L.length ≤ 100000 := by omega
      obtain ⟨A7, c7, rfl, hs7⟩ := Sl.of_own hown3
      have HS7 := Lib.hid hs7
      have HR7 := Lib.hid hr7
      clear hown2 hown3 hr7 hs7 hL hb2 hb3 hg2 hg3 g0 c1 c2 k1 k2 k3 hbw hst hle h11 h12_ HV2 hHeld hLl
      go_wp2
      go_loopw [3, 6, 7] (fun n k j wx => ∃ q : Nat, k = .int .i64 q ∧ q ≤ L.length ∧ n = .int .i64 ((N + sm ((L.take q).map tV) : Nat) : Int) ∧ Below w3.heap.size w3 wx) (fun _ k _ _ => L.length - (intOf k).toNat)
      case atStart => exact ⟨0, rfl, by omega, by simp only [List.take_zero, List.map_nil, sm]; rfl, Below.refl _ _⟩
      case round =>
        obtain ⟨q, rfl, hq, rfl, hbx⟩ := hrel
        by_cases hql : q < L.length
        · obtain ⟨v, hv⟩ : ∃ v, L[q]? = some v := ⟨_, List.getElem?_eq_getElem hql⟩
          obtain ⟨a7, x, y, z, rfl, hga7, hcc, c0, c1, c2⟩ := row3 vAt.len (HS7.out.on hbx) (HR7.out.imp fun a cs h => VRd.low (Lo.below hbx (Nat.le_trans hB HB2.out.size)) h) hv
          obtain ⟨um, hu, hlm⟩ := hcc
          simp only [List.cons.injEq, and_true] at hu
          obtain ⟨rfl, rfl, rfl⟩ := hu
          obtain ⟨AM, cM, xsM, rfl, hsM, hbM, hrM, hnM⟩ := hlm.open_
          have HSM := Lib.hid hsM
          have HRM := Lib.hid hrM
          have HBM := Lib.hid hbM
          have hst2 := sm_take_next tV hv
          have hle2 := sm_take_le L (q + 1) tV
          have HCM := Lib.hid (fun x hx => HCN.out v x (List.mem_of_getElem? hv) hx)
          have HTT := Lib.hid (fun x hx => HTN.out v x (List.mem_of_getElem? hv) hx)
          have HBX := Lib.hid hbx
          have C2 := Lib.hid c2
          have hlt7 : a7.block < wr.heap.size := hga7
          obtain ⟨M0, hM0⟩ : ∃ M0, M0 = N + sm ((L.take q).map tV) := ⟨_, rfl⟩
          have hM0' : N + sm (List.take q (List.map tV L)) = M0 := by rw [hM0, List.map_take]
          have HS2 := Lib.hid (show N + sm ((L.take (q + 1)).map tV) = M0 + v.s.length + sm (v.M.map Mg.txt) by rw [hst2, hM0]; show N + (_ + (v.s.length + sm (v.M.map Mg.txt))) = _; omega)
          have hmx2 : M0 + v.s.length + sm (v.M.map Mg.txt) ≤ 4611686018427387904 := by rw [← HS2.out]; omega
          have hsl : (tx v.s).size = v.s.length := by simp [tx, ByteArray.size]
          (try rw [hM0']); (try rw [← hM0])
          clear hsM hrM hbM hlm hv c0 hbx hst2 hle2 hM0 hM0'
          go_wp2
          (try rw [hsl])
          go_loopw [3, 7] (fun n j wy => ∃ t : Nat, j = .int .i64 t ∧ t ≤ v.M.length ∧ n = .int .i64 ((M0 + v.s.length + sm ((v.M.take t).map Mg.txt) : Nat) : Int) ∧ Below wr.heap.size wr wy) (fun _ j _ => v.M.length - (intOf j).toNat)
          case atStart => exact ⟨0, rfl, by omega, by simp only [List.take_zero, List.map_nil, sm]; (try rfl); (try go_num), Below.refl _ _⟩
          case round =>
            obtain ⟨t, rfl, ht, rfl, hby⟩ := hrel
            have k2 := cell_on hby C2.out
            clear c2
            by_cases htl : t < v.M.length
            · obtain ⟨x, hx⟩ : ∃ x, v.M[t]? = some x := ⟨_, List.getElem?_eq_getElem htl⟩
              obtain ⟨am, ux, rfl, hgam, hcx, k0⟩ := row1 MAt.len (sl_low HSM.out HBM.out (Lo.below hby (Nat.le_trans hB (Nat.le_trans HB2.out.size HBX.out.size)))) (HRM.out.imp fun a cs h => MRd.low (Lo.below hby (Nat.le_trans hB (Nat.le_trans HB2.out.size HBX.out.size))) h) hx
              have HCX := Lib.hid (HH.out x ux wr (Nat.le_trans hB (Nat.le_trans HB2.out.size (Nat.le_trans HBX.out.size hby.size))) hcx (HCM.out x (List.mem_of_getElem? hx)) (HTT.out x (List.mem_of_getElem? hx)))
              have hst3 := sm_take_next Mg.txt hx
              have hle3 := sm_take_le v.M (t + 1) Mg.txt
              obtain ⟨P0, hP0⟩ : ∃ P0, P0 = sm ((v.M.take t).map Mg.txt) := ⟨_, rfl⟩
              have hP0' : sm (List.take t (List.map Mg.txt v.M)) = P0 := by rw [hP0, List.map_take]
              rw [← hP0] at hst3
              have HS3 := Lib.hid hst3
              have hb3 : M0 + v.s.length + (P0 + Mg.txt x) ≤ 4611686018427387904 := by omega
              have HBY := Lib.hid hby
              (try rw [hP0']); (try rw [← hP0])
              clear hcx hx hby hst3 hle3 hP0 hP0'
              go_wp2_with (go_at_call 26; refine HCX.out.mono ?_; rintro e w9 ⟨rfl, hb9⟩)
              refine ⟨⟨t + 1, by go_num, by omega, ?_, HBY.out.trans (hb9.mono HBY.out.size)⟩, by simp [intOf]; omega⟩
              rw [HS3.out]
              go_num
            · obtain rfl : t = v.M.length := by omega
              go_wp2
              refine ⟨⟨q + 1, by go_num, by omega, ?_, HBX.out.trans (hby.mono HBX.out.size)⟩, by simp [intOf]; omega⟩
              rw [HS2.out]
              (try rw [List.take_length])
              (try rfl)
        · obtain rfl : q = L.length := by omega
          go_wp2
          refine ⟨⟨p + 1, by go_num, by omega, ?_, HB3.out.trans (hbx.mono HB3.out.size)⟩, by simp [intOf]; omega⟩
          rw [HST.out]
          (try rw [List.take_length])
          (try rfl)
    · obtain rfl : p = m.F.length := by omega
      go_wp2
      go_ret
      exact ⟨by rw [Mg.txt_eq]; (try rw [List.take_length]); (try rfl), HBW.out⟩
/-- texts, of any message. -/
theorem txt_any (B : Nat) : ∀ D, TxtH B D
  | 0 => fun _ _ _ _ h _ _ => h.elim
  | D + 1 => txt_step (txt_any B D)
theorem txt_le (m : Mg) : MIn m → Mg.txt m ≤ 140737488351232 * m.cnt := by
  refine Mg.ind (P := fun m => MIn m → Mg.txt m ≤ 140737488351232 * m.cnt) (fun m ih hi => ?_) m
  rw [Mg.txt_eq, Mg.cnt_eq]
  have hv : ∀ s ∈ m.F, ∀ v, v ∈ s.K ∨ v ∈ s.V → tV v ≤ 140737488351232 * cV v := by
    intro s hs v hv
    have h1 := ((hi.slot hs).2 v hv).1.2
    have h2 : sm (v.M.map Mg.txt) ≤ sm (v.M.map fun x => 140737488351232 * (1 + x.cnt)) := sm_mono fun x hx => by
      have := ih s hs v hv x hx (((hi.slot hs).2 v hv).2 x hx)
      omega
    have h3 : ∀ l : List Mg, sm (l.map fun x => 140737488351232 * (1 + x.cnt)) = 140737488351232 * sm (l.map fun x => 1 + x.cnt) := fun l => by
      induction l with
      | nil => rfl
      | cons x l ih => simp only [List.map_cons, sm, ih]; omega
    rw [h3] at h2
    unfold tV cV
    omega
  have hm : ∀ (l : List Vl'), (∀ v ∈ l, tV v ≤ 140737488351232 * cV v) → sm (l.map tV) ≤ 140737488351232 * sm (l.map cV) := fun l h => by
    induction l with
    | nil => exact Nat.zero_le _
    | cons x l ih => have := h x (by simp); have := ih fun v hv => h v (by simp [hv]); simp only [List.map_cons, sm]; omega
  have hs : ∀ l : List So, (∀ s ∈ l, tS s ≤ 140737488351232 * cS s) → sm (l.map tS) ≤ 140737488351232 * sm (l.map cS) := fun l h => by
    induction l with
    | nil => exact Nat.zero_le _
    | cons x l ih => have := h x (by simp); have := ih fun v hv => h v (by simp [hv]); simp only [List.map_cons, sm]; omega
  refine hs _ fun s hs' => ?_
  have h1 := hm s.K fun v hv' => hv s hs' v (.inl hv')
  have h2 := hm s.V fun v hv' => hv s hs' v (.inr hv')
  unfold tS cS
  omega
end Go.Proofs.YtipaangiehdgkaaGreatDoor.T12
/-
  A record's bytes lie where nothing lay before: the contract of the function that puts them, told of that; bytes, and lists of bytes of the call's own.
-/
namespace Go.Proofs.YtipaangiehdgkaaGreatDoor.T12
set_option maxRecDepth 100000

open Go.RowKit

open Go.Proofs.YtipaangiehdgkaaGreatDoor.T9

theorem of_own_ge {w : World} {base : Nat} {e : TypeId} {v : Value} {l : List UInt8} (h : w.ownsRow base e 1 v l.length (bs l)) : ∃ A c, v = .slice A l.length c ∧ SlB w A c l ∧ ∀ a, A = some a → base ≤ a.block := by
  obtain ⟨A, c, rfl, hs⟩ := SlB.of_own h
  refine ⟨A, c, rfl, hs, fun a ha => ?_⟩
  subst ha
  exact (own_blk h a.block rfl).1
/-- Bytes that lie at a block b, or behind it. -/
def By (b : Nat) (w : World) (l : List UInt8) (v : Value) : Prop := ∃ A c, v = .slice A l.length c ∧ SlB w A c l ∧ ∀ a, A = some a → 0 < l.length → b ≤ a.block
theorem By.less {b b' : Nat} {w : World} {l : List UInt8} {v : Value} (h : By b w l v) (hb : b' ≤ b) : By b' w l v := by
  obtain ⟨A, c, e, h1, h2⟩ := h
  exact ⟨A, c, e, h1, fun a ha hl => Nat.le_trans hb (h2 a ha hl)⟩
theorem By.on {b : Nat} {w w' : World} {l : List UInt8} {v : Value} (h : By b w l v) (hb : Below w.heap.size w w') : By b w' l v := by
  obtain ⟨A, c, e, h1, h2⟩ := h
  exact ⟨A, c, e, h1.on hb, h2⟩
theorem By.own {b : Nat} {w : World} {e : TypeId} {v : Value} {l : List UInt8} (h : w.ownsRow b e 1 v l.length (bs l)) : By b w l v := by
  obtain ⟨A, c, e, h1, h2⟩ := of_own_ge h
  exact ⟨A, c, e, h1, fun a ha _ => h2 a ha⟩
theorem By.nil (b : Nat) (w : World) : By b w [] (.slice none 0 0) := ⟨none, 0, rfl, SlB.nil w, fun a h => by cases h⟩
theorem slB_kept {w w' : World} {A : Option Addr} {c : Nat} {l : List UInt8} (h : SlB w A c l) (hs : w.heap.size ≤ w'.heap.size) (hk : ∀ a, A = some a → 0 < l.length → a.block < w.heap.size → w'.heap[a.block]? = w.heap[a.block]?) : SlB w' A c l := by
  unfold SlB at h ⊢
  obtain ⟨h1, h2, h3, h4, h5, h6⟩ := h
  refine ⟨h1, h2, h3, h4, fun ad ha hn => Nat.lt_of_lt_of_le (h5 ad ha hn) hs, fun ad ha k u hu => ?_⟩
  have hl : 0 < l.length := by
    have := (List.getElem?_eq_some_iff.1 hu).1
    rw [h1] at this
    omega
  have e := hk ad ha hl (h5 ad ha hl)
  exact (World.cell?_of_block (by rw [add_same_block]; exact e)).trans (h6 ad ha k u hu)
/-- Lists of bytes that lie elsewhere than block r. -/
def BL (r : Option Nat) (w : World) (l : List UInt8) (cs : List Value) : Prop := ∃ A c, cs = [.slice A l.length c] ∧ SlB w A c l ∧ ∀ a, A = some a → 0 < l.length → r ≠ some a.block
theorem BL.len (r : Option Nat) (w : World) (l : List UInt8) (cs : List Value) (h : BL r w l cs) : cs.length = 1 := by
  obtain ⟨A, c, rfl, -⟩ := h
  rfl
/-- A list of bytes' slices, of the call's own. -/
structure PB (b : Nat) (w : World) (v : Value) (ls : List (List UInt8)) (zs : List Value) : Prop where
  own : w.ownsRow b 22 1 v ls.length zs
  rows : T9.Rows (BL v.ownBlock w) ls zs
section

variable {b : Nat} {w w' : World} {v : Value} {ls : List (List UInt8)} {zs : List Value}

theorem PB.nil (b : Nat) (w : World) : PB b w (.slice none 0 0) [] [] := ⟨World.ownsRow_nil _ _ _ _, rfl⟩
theorem PB.on (h : PB b w v ls zs) (hb : Below w.heap.size w w') : PB b w' v ls zs :=
  ⟨own_hi h.own (hi_below b hb), h.rows.imp fun l cs hl => by
    obtain ⟨A, c, e, h1, h2⟩ := hl
    exact ⟨A, c, e, h1.on hb, h2⟩⟩
theorem PB.lt (h : PB b w v ls zs) (k : Nat) (hk : v.ownBlock = some k) : k < w.heap.size := (own_blk h.own k hk).2
theorem PB.less (h : PB b w v ls zs) {b' : Nat} (hb : b' ≤ b) : PB b' w v ls zs := ⟨own_less h.own hb, h.rows⟩
/-- Behind an append of bytes that are newer than the row. -/
theorem PB.app (h : PB b w v ls zs) {l : List UInt8} {u : Value} {b' : Nat} (hv : ∀ k, v.ownBlock = some k → k < b') (hl : By b' w l u) {g cap : Nat}
    (hrow : w'.ownsRow b 22 1 (.slice (some ⟨g, 0, none⟩) (ls.length + 1) cap) (ls.length + 1) (zs ++ [u])) (hg : w.grownBy w' v.ownBlock) (hat : v.ownBlock = some g ∨ w.heap.size ≤ g) : PB b w' (.slice (some ⟨g, 0, none⟩) (ls.length + 1) cap) (ls ++ [l]) (zs ++ [u]) := by
  have H : ∀ l cs, BL v.ownBlock w l cs → BL (some g) w' l cs := by
    rintro l cs ⟨A, c, e, h1, h2⟩
    refine ⟨A, c, e, slB_kept h1 hg.size fun a ha hn hlt => hg.block _ hlt fun e => h2 a ha hn e.symm, fun a ha hn e => ?_⟩
    injection e with e
    rcases hat with hat | hat
    · exact h2 a ha hn (by rw [hat, e])
    · have := h1.old a ha hn
      omega
  refine ⟨by rw [List.length_append]; exact hrow, (h.rows.imp H).append (Rows.single (H _ _ ?_))⟩
  obtain ⟨A, c, rfl, h1, h2⟩ := hl
  refine ⟨A, c, rfl, h1, fun a ha hn e => ?_⟩
  have h3 := hv a.block e
  have h4 := h2 a ha hn
  omega
end

set_option maxRecDepth 1000000 in
set_option maxHeartbeats 4000000 in
theorem rcputB_any (no wire : Int) (num : Nat) (f u : Int) (A : Option Addr) (c : Nat) (run : List UInt8) (hn1 : -9223372036854775808 ≤ no) (hn2 : no ≤ 9223372036854775807) (hw1 : -9223372036854775808 ≤ wire) (hw2 : wire ≤ 9223372036854775807)
    (hnum : num < 18446744073709551616) (hl : run.length ≤ 140737488351232) (w : World) (h1 : SlB w A c run) (T : Wires w) :
    Calls Tryz.prog 154 #[ZV no wire num f u, .slice A run.length c] w fun e w' => ∃ A' c', e = .returned (.tuple #[.slice A' (recL no wire num run).length c', .bool (putB no wire)]) ∧ SlB w' A' c' (recL no wire num run) ∧ (∀ a, A' = some a → 0 < (recL no wire num run).length → w.heap.size ≤ a.block) ∧ Below w.heap.size w w' := by
  obtain ⟨i0, hi, hz0, hz1, hz2⟩ := info_parts info_u8
  unfold ZV
  have h5 := putL_le5 (no := no) (wire := wire)
  by_cases hB : putB no wire = true
  · rw [recL_yes hB, hB]
    have hk := putB_iff.1 hB
    have hv10 := vput_len10 hnum
    have hr10 := vput_len10 (n := run.length) (by omega)
    have HB := Lib.hid hB
    clear hB
    generalize hP : putL no wire = P at *
    have HP := Lib.hid hP
    clear hP
    rcases hk with ⟨_, rfl | rfl | rfl | rfl⟩
    · -- a number
      have hR : restL 0 num run = vput num := by unfold restL; simp
      rw [hR]
      generalize hV : vput num = V at *
      have HV := Lib.hid hV
      clear hV hR
      have E1 : Hid (P.length + V.length = (P ++ V).length) := Lib.hid (by rw [List.length_append])
      have E2 : Hid (bs P ++ bs V = bs (P ++ V)) := Lib.hid (by rw [bs_append])
      generalize P ++ V = X at *
      go_enter Tryz.func154, Tryz.ntmps154
      go_wp2_with fail
      refine (tput_own no 0 hn1 hn2 hw1 hw2 _ (T.on (below_new _ _))).mono ?_
      rw [HP.out, HB.out]
      rintro e w1 ⟨v1, rfl, hown1, hb1⟩
      have hg1 := hb1.block w.heap.size (by simp)
      rw [heap_alloc_new] at hg1
      obtain ⟨q0, q1, q2, _, _⟩ := heap_cells hg1
      have hb1 := below_then (below_new w _) hb1
      go_wp2_with fail
      refine (put_reads num hnum _).mono ?_
      rw [HV.out]
      rintro e w2 ⟨A2, c2, rfl, hr2, hb2⟩
      have hown2 := own_mono5 (own_below5 hown1 hb2) (show w.heap.size ≤ _ by simp)
      have hb2 := below_then hb1 hb2
      go_wp2_with (at_builtin; refine wpList_app_sl rfl _ _ 22 rfl w.heap.size 5 i0 (.int .u8 0) 1 1 Tryz.underlying22 hi hz0 hz1 hz2 rfl (by omega) v1 P.length (bs P) rfl hown2 A2 V.length c2 (bs V) rfl hr2 (bs_one V) (by unfold maxLen; omega) (by omega) hb2.size ?_; intro v3 w3 hown3 hg3; have hb3 : Below w.heap.size w w3 := hb2.grown hg3 hb2.size (own_ge hown2); rw [E1.out, E2.out] at hown3; obtain ⟨A4, c4, rfl, hr4, hge4⟩ := of_own_ge hown3)
      go_ret2
      exact ⟨A4, c4, rfl, hr4, (fun a h _ => hge4 a h), hb3⟩
    · -- eight bytes
      have hR : restL 1 num run = fixb num 8 := by unfold restL; simp
      rw [hR]
      have hVl : (fixb num 8).length = 8 := fixb_length _ _
      generalize hV : fixb num 8 = V at *
      have HV := Lib.hid hV
      clear hV hR
      have E1 : Hid (P.length + 8 = (P ++ V).length) := Lib.hid (by rw [List.length_append, hVl])
      have E2 : Hid (bs P ++ bs V = bs (P ++ V)) := Lib.hid (by rw [bs_append])
      have hRD : ∀ (w : World) A c, SlB w A c V → Sl w A 8 c 1 (bs V) := fun w A c h => by unfold SlB at h; rw [hVl] at h; exact h
      clear hVl
      generalize P ++ V = X at *
      go_enter Tryz.func154, Tryz.ntmps154
      go_wp2_with fail
      refine (tput_own no 1 hn1 hn2 hw1 hw2 _ (T.on (below_new _ _))).mono ?_
      rw [HP.out, HB.out]
      rintro e w1 ⟨v1, rfl, hown1, hb1⟩
      have hg1 := hb1.block w.heap.size (by simp)
      rw [heap_alloc_new] at hg1
      obtain ⟨q0, q1, q2, _, _⟩ := heap_cells hg1
      have hb1 := below_then (below_new w _) hb1
      go_wp2_with fail
      refine (fixed_any num 8 (by omega) hnum _).mono ?_
      rw [HV.out]
      rintro e w2 ⟨A2, c2, rfl, hr2, hb2⟩
      have hown2 := own_mono5 (own_below5 hown1 hb2) (show w.heap.size ≤ _ by simp)
      have hb2 := below_then hb1 hb2
      have hr2' := hRD _ _ _ hr2
      clear hr2 hRD
      go_wp2_with (at_builtin; refine wpList_app_sl rfl _ _ 22 rfl w.heap.size 5 i0 (.int .u8 0) 1 1 Tryz.underlying22 hi hz0 hz1 hz2 rfl (by omega) v1 P.length (bs P) rfl hown2 A2 8 c2 (bs V) rfl hr2' (bs_one V) (by unfold maxLen; omega) (by omega) hb2.size ?_; intro v3 w3 hown3 hg3; have hb3 : Below w.heap.size w w3 := hb2.grown hg3 hb2.size (own_ge hown2); rw [E1.out, E2.out] at hown3; obtain ⟨A4, c4, rfl, hr4, hge4⟩ := of_own_ge hown3)
      go_ret2
      exact ⟨A4, c4, rfl, hr4, (fun a h _ => hge4 a h), hb3⟩
    · -- a run
      have hR : restL 2 num run = vput run.length ++ run := by unfold restL; simp
      rw [hR]
      have ew : IntKind.u64.wrap (run.length : Int) = run.length := by simp [IntKind.wrap, IntKind.signed, IntKind.bits]; omega
      generalize hV : vput run.length = V at *
      have HV := Lib.hid hV
      clear hV hR
      have E1 : Hid (P.length + V.length + run.length = (P ++ (V ++ run)).length) := Lib.hid (by simp only [List.length_append]; omega)
      have E2 : Hid (bs P ++ bs V ++ bs run = bs (P ++ (V ++ run))) := Lib.hid (by simp only [bs_append, List.append_assoc])
      generalize P ++ (V ++ run) = X at *
      go_enter Tryz.func154, Tryz.ntmps154
      go_wp2_with fail
      refine (tput_own no 2 hn1 hn2 hw1 hw2 _ (T.on (below_new _ _))).mono ?_
      rw [HP.out, HB.out]
      rintro e w1 ⟨v1, rfl, hown1, hb1⟩
      have hg1 := hb1.block w.heap.size (by simp)
      rw [heap_alloc_new] at hg1
      obtain ⟨q0, q1, q2, _, _⟩ := heap_cells hg1
      have hb1 := below_then (below_new w _) hb1
      go_wp2_with fail
      refine (put_reads run.length (by omega) _).mono ?_
      rw [HV.out]
      rintro e w2 ⟨A2, c2, rfl, hr2, hb2⟩
      have hown2 := own_mono5 (own_below5 hown1 hb2) (show w.heap.size ≤ _ by simp)
      have hb2 := below_then hb1 hb2
      have h1' := h1
      clear h1
      go_wp2_with (first
        | (at_builtin; refine wpList_app_sl rfl _ _ 22 rfl w.heap.size 5 i0 (.int .u8 0) 1 1 Tryz.underlying22 hi hz0 hz1 hz2 rfl (by omega) v1 P.length (bs P) rfl hown2 A2 V.length c2 (bs V) rfl hr2 (bs_one V) (by unfold maxLen; omega) (by omega) hb2.size ?_; intro v3 w3 hown3 hg3; have hb3 : Below w.heap.size w w3 := hb2.grown hg3 hb2.size (own_ge hown2); have h3 := h1'.on hb3; clear hr2)
        | (at_builtin; refine wpList_app_sl rfl _ _ 22 rfl w.heap.size 5 i0 (.int .u8 0) 1 1 Tryz.underlying22 hi hz0 hz1 hz2 rfl (by omega) v3 (P.length + V.length) (bs P ++ bs V) rfl hown3 A run.length c (bs run) rfl h3 (bs_one run) (by unfold maxLen; omega) (by omega) hb3.size ?_; intro v4 w4 hown4 hg4; have hb4 : Below w.heap.size w w4 := hb3.grown hg4 hb3.size (own_ge hown3); rw [E1.out, E2.out] at hown4; obtain ⟨A4, c4, rfl, hr4, hge4⟩ := of_own_ge hown4))
      go_ret2
      exact ⟨A4, c4, rfl, hr4, (fun a h _ => hge4 a h), hb4⟩
    · -- four bytes
      have hR : restL 5 num run = fixb num 4 := by unfold restL; simp
      rw [hR]
      have hVl : (fixb num 4).length = 4 := fixb_length _ _
      generalize hV : fixb num 4 = V at *
      have HV := Lib.hid hV
      clear hV hR
      have E1 : Hid (P.length + 4 = (P ++ V).length) := Lib.hid (by rw [List.length_append, hVl])
      have E2 : Hid (bs P ++ bs V = bs (P ++ V)) := Lib.hid (by rw [bs_append])
      have hRD : ∀ (w : World) A c, SlB w A c V → Sl w A 4 c 1 (bs V) := fun w A c h => by unfold SlB at h; rw [hVl] at h; exact h
      clear hVl
      generalize P ++ V = X at *
      go_enter Tryz.func154, Tryz.ntmps154
      go_wp2_with fail
      refine (tput_own no 5 hn1 hn2 hw1 hw2 _ (T.on (below_new _ _))).mono ?_
      rw [HP.out, HB.out]
      rintro e w1 ⟨v1, rfl, hown1, hb1⟩
      have hg1 := hb1.block w.heap.size (by simp)
      rw [heap_alloc_new] at hg1
      obtain ⟨q0, q1, q2, _, _⟩ := heap_cells hg1
      have hb1 := below_then (below_new w _) hb1
      go_wp2_with fail
      refine (fixed_any num 4 (by omega) hnum _).mono ?_
      rw [HV.out]
      rintro e w2 ⟨A2, c2, rfl, hr2, hb2⟩
      have hown2 := own_mono5 (own_below5 hown1 hb2) (show w.heap.size ≤ _ by simp)
      have hb2 := below_then hb1 hb2
      have hr2' := hRD _ _ _ hr2
      clear hr2 hRD
      go_wp2_with (at_builtin; refine wpList_app_sl rfl _ _ 22 rfl w.heap.size 5 i0 (.int .u8 0) 1 1 Tryz.underlying22 hi hz0 hz1 hz2 rfl (by omega) v1 P.length (bs P) rfl hown2 A2 4 c2 (bs V) rfl hr2' (bs_one V) (by unfold maxLen; omega) (by omega) hb2.size ?_; intro v3 w3 hown3 hg3; have hb3 : Below w.heap.size w w3 := hb2.grown hg3 hb2.size (own_ge hown2); rw [E1.out, E2.out] at hown3; obtain ⟨A4, c4, rfl, hr4, hge4⟩ := of_own_ge hown3)
      go_ret2
      exact ⟨A4, c4, rfl, hr4, (fun a h _ => hge4 a h), hb3⟩
  · have hB : putB no wire = false := by simpa using hB
    rw [recL_no hB, hB]
    have HB := Lib.hid hB
    have hP := putL_no hB
    clear hB
    go_enter Tryz.func154, Tryz.ntmps154
    go_wp2_with fail
    refine (tput_own no wire hn1 hn2 hw1 hw2 _ (T.on (below_new _ _))).mono ?_
    rw [HB.out, hP]
    rintro e w1 ⟨v1, rfl, hown1, hb1⟩
    go_wp2
    go_ret2
    exact ⟨none, 0, rfl, SlB.nil _, (fun a h => by cases h), below_then (below_new _ _) hb1⟩
end Go.Proofs.YtipaangiehdgkaaGreatDoor.T12
/-
  Parts put one behind the other: slices.Grow of nothing, slices.Concat, and encode's put, run and together.
-/
namespace Go.Proofs.YtipaangiehdgkaaGreatDoor.T12
set_option maxRecDepth 100000

open Go.RowKit

open Go.Proofs.YtipaangiehdgkaaGreatDoor.T9

theorem BL.on {r : Option Nat} {w w' : World} (hb : Below w.heap.size w w') (l : List UInt8) (cs : List Value) (h : BL r w l cs) : BL r w' l cs := by
  obtain ⟨A, c, e, h1, h2⟩ := h
  exact ⟨A, c, e, h1.on hb, h2⟩
theorem BL.any {r : Option Nat} {w : World} (l : List UInt8) (cs : List Value) (h : BL r w l cs) : BL none w l cs := by
  obtain ⟨A, c, e, h1, h2⟩ := h
  exact ⟨A, c, e, h1, fun a ha hn e => by cases e⟩
set_option maxRecDepth 1000000 in
set_option maxHeartbeats 4000000 in
theorem grow_nil (n : Nat) (hn : n ≤ 140737488351232) (w : World) :
    Calls Tryz.prog 129 #[.slice none 0 0, .int .i64 n] w fun e w' => ∃ v, e = .returned v ∧ w'.ownsRow w.heap.size 5 1 v 0 [] ∧ Below w.heap.size w w' := by
  obtain ⟨i0, hi, hz0, hz1, hz2⟩ := info_parts info_u8
  by_cases h0 : n = 0
  · subst h0
    go_enter Tryz.func129, Tryz.ntmps129
    go_wp2
    go_ret
    exact ⟨_, rfl, World.ownsRow_nil _ _ _ _, Below.refl _ _⟩
  · have h1 : ¬ ((n : Int) < 0) := by omega
    have h2 : (0 : Int) < (n : Int) := by omega
    have hrz : ∀ ty, (Builtin.append_ #[22, 3] ty #[.slice none 0 0, .int .i64 n]).run Tryz.prog w = .ok (.slice (some ⟨w.heap.size, 0, none⟩) n (grownCap w n 0 5)) (w.drew.alloc (.cells (Builtin.zeroCells (Value.int .u8 0).cells n ++ Builtin.zeroCells (Value.int .u8 0).cells (grownCap w n 0 5 - n)) 5)) := fun ty =>
      Lib.run_append_nil_zeros w 22 3 ty 5 i0 (.int .u8 0) .i64 .i64 Tryz.underlying22 Tryz.underlying3 hi hz0 n (by omega) (by omega) (by omega) (by rw [hz2]; omega)
    have hG1 : n ≤ grownCap w n 0 5 := grownCap_ge w _ _ _
    have hG2 : grownCap w n 0 5 ≤ maxLen := grownCap_le_maxLen w n 0 5 (by unfold maxLen; omega)
    obtain ⟨G, hG⟩ : ∃ G, G = grownCap w n 0 5 := ⟨_, rfl⟩
    rw [← hG] at hrz hG1 hG2
    have hsz : ∀ k, (Builtin.zeroCells (Value.int .u8 0).cells k).size = k := fun k => by simp [Builtin.zeroCells, Value.cells]
    obtain ⟨cs, hcs⟩ : ∃ cs, cs = Builtin.zeroCells (Value.int .u8 0).cells n ++ Builtin.zeroCells (Value.int .u8 0).cells (G - n) := ⟨_, rfl⟩
    have hcl : cs.size = G := by rw [hcs, Array.size_append, hsz, hsz]; omega
    rw [← hcs] at hrz
    have hG63 : G ≤ 9223372036854775807 := by unfold maxLen at hG2; omega
    clear hG hcs hsz
    go_enter Tryz.func129, Tryz.ntmps129
    go_wp2_with (at_builtin; refine Lib.wpList_append_run _ rfl _ _ 22 3 rfl _ _ rfl rfl _ _ (hrz _) ?_)
    go_ret
    refine ⟨_, rfl, ⟨by simp, .inr ⟨w.heap.size, G, cs, rfl, Nat.le_refl _, heap_alloc_new w.drew _, Nat.zero_le _, hG2, by rw [hcl]; omega, by simp⟩⟩, ((Below.refl _ _).drew).trans (below_new w.drew _)⟩
set_option maxRecDepth 1000000 in
set_option maxHeartbeats 4000000 in
theorem concat_any (A : Option Addr) (c : Nat) (ls : List (List UInt8)) (zs : List Value) (F : List UInt8) (hF : ls.flatten = F) (w : World) (hs : Sl w A ls.length c 1 zs) (hr : T9.Rows (BL none w) ls zs) (hsum : F.length ≤ 140737488351232) :
    Calls Tryz.prog 79 #[.slice A ls.length c] w fun e w' => ∃ v, e = .returned v ∧ w'.ownsRow w.heap.size 5 1 v F.length (bs F) ∧ Below w.heap.size w w' := by
  obtain ⟨i0, hi, hz0, hz1, hz2⟩ := info_parts info_u8
  have hle := hs.le
  have hcap := hs.cap
  unfold maxLen at hcap
  have HS := Lib.hid hs
  have HR := Lib.hid hr
  obtain ⟨pre, p0, pn, ps, pl⟩ : ∃ pre : Nat → List UInt8, pre 0 = [] ∧ pre ls.length = F ∧ (∀ k l, ls[k]? = some l → pre (k + 1) = pre k ++ l) ∧ (∀ k, (pre k).length ≤ F.length) := by
    refine ⟨fun k => (ls.take k).flatten, rfl, by rw [← hF]; simp, fun k l h => ?_, fun k => ?_⟩
    · show (ls.take (k + 1)).flatten = (ls.take k).flatten ++ l
      rw [List.take_add_one, h]; simp
    · have e : (ls.take k).flatten ++ (ls.drop k).flatten = F := by rw [← List.flatten_append, List.take_append_drop, hF]
      show (ls.take k).flatten.length ≤ F.length
      rw [← e, List.length_append]
      omega
  have HT := Lib.hid ps
  have HL := Lib.hid pl
  have HP := Lib.hid (And.intro p0 pn)
  have l0 : (pre 0).length = 0 := by rw [p0]; rfl
  clear hs hr ps pl p0 pn hF
  go_enter Tryz.func79, Tryz.ntmps79
  go_wp2
  go_loopw [3, 11] (fun z i wr => ∃ k : Nat, i = .int .i64 k ∧ k ≤ ls.length ∧ z = .int .i64 (((pre k).length : Nat) : Int) ∧ Below w.heap.size w wr) (fun _ i _ => ls.length - (intOf i).toNat)
  case atStart => exact ⟨0, rfl, by omega, by rw [l0]; rfl, Below.refl _ _⟩
  case round =>
    obtain ⟨k, rfl, hk, rfl, hbw⟩ := hrel
    by_cases hlt : k < ls.length
    · obtain ⟨l, hl⟩ : ∃ l, ls[k]? = some l := ⟨_, List.getElem?_eq_getElem hlt⟩
      obtain ⟨ad, u, rfl, hga, hcc, c0⟩ := row1 (BL.len none wr) (HS.out.on hbw) (HR.out.imp (BL.on hbw)) hl
      obtain ⟨A1, c1, hu, h1, -⟩ := hcc
      simp only [List.cons.injEq, and_true] at hu
      subst hu
      have h2 := HL.out (k + 1)
      have h3 := HT.out k l hl
      rw [h3, List.length_append] at h2
      obtain ⟨N, hN⟩ : ∃ N, N = (pre k).length := ⟨_, rfl⟩
      have HN : Hid ((pre (k + 1)).length = N + l.length) := Lib.hid (by rw [h3, List.length_append, hN])
      rw [← hN] at h2 ⊢
      have h4 : ¬ ((N : Int) + (l.length : Int) < 0) := by omega
      clear hN h3 hl h1 l0
      go_wp2
      refine ⟨⟨k + 1, by go_num, by omega, by rw [HN.out]; go_num, hbw⟩, by simp [intOf]; omega⟩
    · obtain rfl : k = ls.length := by omega
      rw [HP.out.2]
      have HG := Lib.hid (fun wx => grow_nil F.length hsum wx)
      clear l0
      go_wp2_with fail
      refine (HG.out _).mono ?_
      rintro e w1 ⟨v1, rfl, ho1, hb1⟩
      have hb1' := below_then hbw hb1
      have ho1' := own_less ho1 hbw.size
      clear HG ho1
      go_wp2
      go_loopw [6, 27] (fun v i wr => ∃ k : Nat, i = .int .i64 k ∧ k ≤ ls.length ∧ wr.ownsRow w.heap.size 5 1 v (pre k).length (bs (pre k)) ∧ Below w.heap.size w wr) (fun _ i _ => ls.length - (intOf i).toNat)
      case atStart => exact ⟨0, rfl, by omega, by rw [HP.out.1]; exact ho1', hb1'⟩
      case round =>
        obtain ⟨k, rfl, hk, ho2, hb2⟩ := hrel
        by_cases hlt2 : k < ls.length
        · obtain ⟨l, hl⟩ : ∃ l, ls[k]? = some l := ⟨_, List.getElem?_eq_getElem hlt2⟩
          obtain ⟨ad, u, rfl, hga, hcc, c0⟩ := row1 (BL.len none wr) (HS.out.on hb2) (HR.out.imp (BL.on hb2)) hl
          obtain ⟨A1, c1, hu, h1, -⟩ := hcc
          simp only [List.cons.injEq, and_true] at hu
          subst hu
          have h2 := HL.out (k + 1)
          have h3 := HT.out k l hl
          obtain ⟨X, hX⟩ : ∃ X, X = pre k := ⟨_, rfl⟩
          rw [← hX] at h3 ho2
          rw [h3] at h2
          rw [List.length_append] at h2
          have HX : Hid (pre (k + 1) = X ++ l) := Lib.hid h3
          clear hX h3 hl
          go_wp2_with (at_builtin; refine wpList_app_sl rfl _ _ 22 rfl w.heap.size 5 i0 (.int .u8 0) 1 1 Tryz.underlying22 hi hz0 hz1 hz2 rfl (by omega) _ X.length (bs X) rfl ho2 A1 l.length c1 (bs l) rfl h1 (bs_one l) (by unfold maxLen; omega) (by omega) hb2.size ?_; intro v3 w3 hown3 hg3)
          have hb3 : Below w.heap.size w w3 := hb2.grown hg3 hb2.size (own_ge ho2)
          refine ⟨⟨k + 1, by go_num, by omega, ?_, hb3⟩, by simp [intOf]; omega⟩
          rw [HX.out, List.length_append, bs_append]
          exact hown3
        · obtain rfl : k = ls.length := by omega
          rw [HP.out.2] at ho2
          go_wp2
          go_ret
          exact ⟨_, rfl, ho2, hb2⟩
set_option maxRecDepth 1000000 in
set_option maxHeartbeats 4000000 in
theorem together_any (A : Option Addr) (c : Nat) (ls : List (List UInt8)) (zs : List Value) (F : List UInt8) (hF : ls.flatten = F) (w : World) (hs : Sl w A ls.length c 1 zs) (hr : T9.Rows (BL none w) ls zs) (hsum : F.length ≤ 140737488351232) :
    Calls Tryz.prog 49 #[.slice A ls.length c] w fun e w' => ∃ v, e = .returned v ∧ By w.heap.size w' F v ∧ Below w.heap.size w w' := by
  have HC := Lib.hid (fun wx (h : Below w.heap.size w wx) => concat_any A c ls zs F hF wx (hs.on h) (hr.imp (BL.on h)) hsum)
  clear hs hr hF
  go_enter Tryz.func49, Tryz.ntmps49
  go_wp2_with fail
  refine (HC.out w (Below.refl _ _)).mono ?_
  rintro e w1 ⟨v, rfl, ho, hb⟩
  have HY := Lib.hid (By.own ho)
  clear ho
  go_wp2
  go_ret
  exact ⟨v, rfl, HY.out, hb⟩
set_option maxRecDepth 1000000 in
set_option maxHeartbeats 4000000 in
theorem put_any (no wire : Int) (num : Nat) (f u : Int) (A : Option Addr) (c : Nat) (run : List UInt8) (hn1 : inI no) (hw1 : inI wire) (hnum : num < 18446744073709551616) (hl : run.length ≤ 140737488351232) (w : World) (h1 : SlB w A c run) (T : Wires w) :
    Calls Tryz.prog 108 #[ZV no wire num f u, .slice A run.length c] w fun e w' => ∃ v, e = .returned v ∧ By w.heap.size w' (recL no wire num run) v ∧ Below w.heap.size w w' := by
  have X1 := heap_alloc_new w (.cells #[.int .i64 no, .int .i64 wire, .int .u64 num, .int .i64 f, .int .i64 u] 62)
  have LBD := below_new w (.cells #[.int .i64 no, .int .i64 wire, .int .u64 num, .int .i64 f, .int .i64 u] 62)
  have HP := Lib.hid (fun wx (h : Below w.heap.size w wx) => rcputB_any no wire num f u A c run hn1.1 hn1.2 hw1.1 hw1.2 hnum hl wx (h1.on h) (T.on h))
  obtain ⟨q0, q1, q2, q3, q4⟩ := heap_cells X1
  clear h1
  unfold ZV at HP ⊢
  go_enter Tryz.func108, Tryz.ntmps108
  go_wp2_with fail
  refine (HP.out _ LBD).mono ?_
  rintro e w1 ⟨A', c', rfl, hr, hge, hb⟩
  have HY : Hid (By w.heap.size w1 (recL no wire num run) (.slice A' (recL no wire num run).length c')) := Lib.hid ⟨A', c', rfl, hr, fun a ha hn => Nat.le_trans LBD.size (hge a ha hn)⟩
  clear hr hge
  go_wp2
  go_ret
  exact ⟨_, rfl, HY.out, below_then LBD hb⟩
set_option maxRecDepth 1000000 in
set_option maxHeartbeats 4000000 in
theorem run_any (no : Int) (A : Option Addr) (c : Nat) (ls : List (List UInt8)) (zs : List Value) (F : List UInt8) (hF : ls.flatten = F) (w : World) (hn1 : inI no) (hs : Sl w A ls.length c 1 zs) (hr : T9.Rows (BL none w) ls zs) (hsum : F.length ≤ 140737488351232) (T : Wires w) :
    Calls Tryz.prog 61 #[.int .i64 no, .slice A ls.length c] w fun e w' => ∃ v, e = .returned v ∧ By w.heap.size w' (runL no F) v ∧ Below w.heap.size w w' := by
  have HC := Lib.hid (together_any A c ls zs F hF w hs hr hsum)
  have HP : Hid (∀ A' c' wx, Below w.heap.size w wx → SlB wx A' c' F → Calls Tryz.prog 108 #[.agg #[.int .i64 no, .int .i64 2, .int .u64 0, .int .i64 0, .int .i64 0], .slice A' F.length c'] wx fun e w' => ∃ v, e = .returned v ∧ By wx.heap.size w' (runL no F) v ∧ Below wx.heap.size wx w') :=
    Lib.hid fun A' c' wx h h1 => put_any no 2 0 0 0 A' c' F hn1 ⟨by decide, by decide⟩ (by decide) hsum wx h1 (T.on h)
  clear hs hr hF
  go_enter Tryz.func61, Tryz.ntmps61
  go_wp2_with fail
  refine HC.out.mono ?_
  rintro e w1 ⟨v, rfl, ⟨A', c', rfl, h1, -⟩, hb⟩
  have HP1 := Lib.hid (HP.out A' c' w1 hb h1)
  clear h1
  go_wp2_with fail
  refine HP1.out.mono ?_
  rintro e w2 ⟨v, rfl, hy, hb2⟩
  have HY := Lib.hid (By.less hy hb.size)
  clear hy
  go_wp2
  go_ret
  exact ⟨v, rfl, HY.out, below_then hb hb2⟩
theorem isCounting_any (k : Int) (w : World) : Calls Tryz.prog 76 #[.int .i64 k] w fun e w' => e = .returned (.bool (cnt k)) ∧ Below w.heap.size w w' := by
  have HO := Lib.hid (fun wx => of_any k 0 (by omega) (by omega) wx)
  obtain ⟨b, hb⟩ : ∃ b, cnt k = b := ⟨_, rfl⟩
  rw [hb] at HO ⊢
  clear hb
  go_enter Tryz.func76, Tryz.ntmps76
  go_wp2_with fail
  refine (HO.out _).mono ?_
  rintro e w1 ⟨rfl, hb1⟩
  go_wp2
  go_ret
  exact ⟨rfl, hb1⟩
end Go.Proofs.YtipaangiehdgkaaGreatDoor.T12
/-
  The words of the table's own code, by plain functions: sets of names that may still be taken, the first place that is wrong, what a field may be; each held against the document's words.
-/
namespace Go.Proofs.YtipaangiehdgkaaGreatDoor
set_option maxRecDepth 100000

/-! ### The first that is told -/

theorem range_split {n k : Nat} (h : k < n) : List.range n = List.range k ++ k :: List.range' (k + 1) (n - k - 1) := by
  apply List.ext_getElem
  · simp; omega
  · intro i h1 h2
    simp only [List.length_range] at h1
    rw [List.getElem_range, List.getElem_append]
    split
    · simp
    · rename_i hlt
      simp only [List.length_range] at hlt
      rw [List.getElem_cons]
      split
      · rename_i h0; simp only [List.length_range] at h0; omega
      · rename_i h0; simp only [List.length_range] at h0; rw [List.getElem_range']; simp only [List.length_range]; omega
theorem firstOf_at {α β : Type} {g : Nat → α → Option β} {l : List α} {k : Nat} {x : α} {r : β} (h : ∀ j y, j < k → l[j]? = some y → g j y = none) (hk : l[k]? = some x) (hg : g k x = some r) : firstOf g l = some r := by
  have hlt := (List.getElem?_eq_some_iff.1 hk).1
  unfold firstOf
  rw [List.findSome?_eq_some_iff]
  refine ⟨_, k, _, range_split hlt, by rw [hk]; exact hg, fun j hj => ?_⟩
  have hj := List.mem_range.1 hj
  rw [List.getElem?_eq_getElem (by omega)]
  exact h j _ hj (List.getElem?_eq_getElem (by omega))
theorem findSome_at {α β : Type} {g : α → Option β} {l : List α} {k : Nat} {x : α} {r : β} (h : ∀ j y, j < k → l[j]? = some y → g y = none) (hk : l[k]? = some x) (hg : g x = some r) : l.findSome? g = some r := by
  have hlt := (List.getElem?_eq_some_iff.1 hk).1
  rw [List.findSome?_eq_some_iff]
  refine ⟨l.take k, x, l.drop (k + 1), ?_, hg, fun y hy => ?_⟩
  · have e : l.drop k = x :: l.drop (k + 1) := by
      rw [List.drop_eq_getElem_cons hlt]
      obtain ⟨_, e⟩ := List.getElem?_eq_some_iff.1 hk
      rw [e]
    rw [← e, List.take_append_drop]
  · obtain ⟨j, hj, rfl⟩ := List.mem_iff_getElem.1 hy
    rw [List.length_take] at hj
    rw [List.getElem_take]
    exact h j _ (by omega) (List.getElem?_eq_getElem (by omega))
theorem findSome_range {β : Type} {g : Nat → Option β} {n k : Nat} {r : β} (h : ∀ j, j < k → g j = none) (hk : k < n) (hg : g k = some r) : (List.range n).findSome? g = some r := by
  rw [List.findSome?_eq_some_iff]
  exact ⟨_, k, _, range_split hk, hg, fun j hj => h j (List.mem_range.1 hj)⟩

/-! ### The plain types, in a row -/

def plainsL : List (List UInt8 × Nat) := [(tInt64, 0), (tSint64, 1), (tUint32, 2), (tBool, 3), (tFixed32, 4), (tSfixed64, 5), (tString, 7), (tBytes, 8)]
theorem typeK_find (x : List UInt8) : (plainsL.find? fun q => q.1 == x).map (·.2) = typeK x := by
  unfold typeK plainsL
  simp only [List.find?_cons, List.find?_nil]
  by_cases h0 : x = tInt64
  · subst h0; rfl
  by_cases h1 : x = tSint64
  · subst h1; rfl
  by_cases h2 : x = tUint32
  · subst h2; rfl
  by_cases h3 : x = tBool
  · subst h3; rfl
  by_cases h4 : x = tFixed32
  · subst h4; rfl
  by_cases h5 : x = tSfixed64
  · subst h5; rfl
  by_cases h6 : x = tString
  · subst h6; rfl
  by_cases h7 : x = tBytes
  · subst h7; rfl
  have e : ∀ y : List UInt8, x ≠ y → (y == x) = false := fun y hy => beq_eq_false_iff_ne.2 (Ne.symm hy)
  simp only [h0, h1, h2, h3, h4, h5, h6, h7, if_false, e _ h0, e _ h1, e _ h2, e _ h3, e _ h4, e _ h5, e _ h6, e _ h7, Option.map_none]
theorem typeK_none (x : List UInt8) : (typeK x).isNone = !(plainsL.map (·.1)).contains x := by
  rw [← typeK_find]
  rw [Option.isNone_map]
  cases h : plainsL.find? fun q => q.1 == x with
  | none =>
    rw [List.find?_eq_none] at h
    simp only [Option.isNone_none]
    symm
    rw [Bool.not_eq_true', List.contains_eq_mem, decide_eq_false_iff_not]
    intro hm
    obtain ⟨q, hq, rfl⟩ := List.mem_map.1 hm
    exact absurd (h q hq) (by simp)
  | some q =>
    have h1 := List.find?_some h
    have h2 := List.mem_of_find?_eq_some h
    simp only [Option.isNone_some]
    symm
    rw [Bool.not_eq_false', List.contains_eq_mem, decide_eq_true_eq]
    exact List.mem_map.2 ⟨q, h2, by simpa using h1⟩

/-! ### What may still be taken -/

/-- Of a list what is neither barred nor among its first k. -/
def still {α : Type} [BEq α] (l bar : List α) (k : Nat) (x : α) : Bool := l.contains x && !bar.contains x && !(l.take k).contains x
theorem still_start {α : Type} [BEq α] [LawfulBEq α] (l bar : List α) : still l bar 0 = fun x => l.contains x && !bar.contains x := by funext x; simp [still]
theorem still_next {α : Type} [BEq α] [LawfulBEq α] [DecidableEq α] {l bar : List α} {k : Nat} {y : α} (h : l[k]? = some y) : (fun x => still l bar k x && decide (x ≠ y)) = still l bar (k + 1) := by
  funext x
  unfold still
  rw [List.take_add_one, h]
  by_cases hx : x = y
  · subst hx; simp
  · simp [hx]
theorem still_self {α : Type} [BEq α] [LawfulBEq α] {l bar : List α} {k : Nat} {y : α} (h : l[k]? = some y) : still l bar k y = (!bar.contains y && !(l.take k).contains y) := by
  have : l.contains y = true := by rw [List.contains_eq_mem, decide_eq_true_eq]; exact List.mem_of_getElem? h
  simp only [still, this, Bool.true_and]

/-! ### A message -/

/-- May a field be in a oneof, of so many, and be repeated, or a map? -/
def standB (ones one : Int) (rep pairs : Bool) : Bool := decide (0 ≤ one) && decide (one ≤ ones) && !(rep && pairs) && !(decide (one ≠ 0) && (rep || pairs))
def nmF (m : Ms) : List (List UInt8) := m.F.map (·.name)
def noF (m : Ms) : List Int := m.F.map (·.no)
theorem take_map_contains {α β : Type} [BEq β] [LawfulBEq β] (g : α → β) (l : List α) (k : Nat) (y : β) : ((l.map g).take k).contains y = (l.take k).any fun x => g x == y := by
  rw [← List.map_take, List.contains_eq_any_beq, List.any_map]
  congr 1
  funext x
  simp only [Function.comp]
  exact BEq.comm
theorem any_or {α : Type} (f g : α → Bool) (l : List α) : (l.any fun x => f x || g x) = (l.any f || l.any g) := by
  induction l with
  | nil => rfl
  | cons x l ih => simp only [List.any_cons, ih]; cases f x <;> cases g x <;> simp
theorem fdForm_code {m : Ms} {k : Nat} {x : Fd} (h : m.F[k]? = some x) :
    fdForm m k x = !((still (nmF m) m.ones k x.name && still (noF m) m.res k x.no) && numberB x.no && standB m.ones.length x.one x.rep (decide (x.key ≠ []))) := by
  rw [still_self (by simp [nmF, h]), still_self (by simp [noF, h])]
  unfold fdForm
  rw [any_or (fun y : Fd => y.name == x.name) (fun y : Fd => y.no == x.no), nmF, noF, take_map_contains, take_map_contains]
  cases (m.F.take k).any fun y => y.name == x.name
  all_goals cases (m.F.take k).any fun y => y.no == x.no
  all_goals cases m.res.contains x.no
  all_goals cases m.ones.contains x.name
  all_goals cases numberB x.no
  all_goals (try simp only [Bool.or_true, Bool.true_or, Bool.not_true, Bool.not_false, Bool.and_false, Bool.false_and, Bool.and_true, Bool.true_and, Bool.false_or, Bool.or_false])
  unfold standB
  by_cases h1 : x.one < 0
  · have e : decide (0 ≤ x.one) = false := by rw [decide_eq_false_iff_not]; omega
    simp [h1, e]
  · have e1 : decide (0 ≤ x.one) = true := by rw [decide_eq_true_eq]; omega
    have e2 : decide (x.one < 0) = false := by rw [decide_eq_false_iff_not]; omega
    by_cases h2 : x.one ≤ (m.ones.length : Int)
    · have e3 : decide ((m.ones.length : Int) < x.one) = false := by rw [decide_eq_false_iff_not]; omega
      have e4 : decide (0 < x.one) = decide (x.one ≠ 0) := by congr 1; apply propext; omega
      rw [e1, e2, e3, e4, decide_eq_true h2]
      cases x.rep <;> cases decide (x.key ≠ []) <;> cases decide (x.one ≠ 0) <;> rfl
    · have e3 : decide ((m.ones.length : Int) < x.one) = true := by rw [decide_eq_true_eq]; omega
      rw [e1, e2, e3, decide_eq_false h2]
      simp
/-- The kind of keys, by their type. -/
def keyK (x : List UInt8) : Int := if x = [] then -1 else ((typeK x).map Int.ofNat).getD 0

/-! ### Names of messages and enums -/

def stillT (l : List (List UInt8)) (k : Nat) (x : List UInt8) : Bool := still l (plainsL.map (·.1)) k x
theorem stillT_self {l : List (List UInt8)} {k : Nat} {y : List UInt8} (h : l[k]? = some y) : stillT l k y = !((typeK y).isSome || (l.take k).contains y) := by
  unfold stillT
  rw [still_self h, ← typeK_none]
  cases typeK y <;> simp

/-! ### What names mean -/

/-- What a name means once the first k names are told. -/
def meanK (f : Fl) (k : Nat) (x : List UInt8) : Option (Int × Int) :=
  match typeK x with
  | some q => some (q, 0)
  | none => if (namesF f).idxOf x < k ∧ (namesF f).idxOf x < (namesF f).length then (if (namesF f).idxOf x < f.M.length then some (9, (namesF f).idxOf x) else some (6, ((namesF f).idxOf x - f.M.length : Nat))) else none
theorem meanK_all (f : Fl) : meanK f (namesF f).length = kindF f := by
  funext x
  unfold meanK kindF
  rw [names_length]
  cases typeK x with
  | some q => rfl
  | none =>
    simp only
    by_cases h1 : (namesF f).idxOf x < f.M.length
    · rw [if_pos h1, if_pos h1, if_pos (by omega)]
    · rw [if_neg h1, if_neg h1]
      by_cases h2 : (namesF f).idxOf x < f.M.length + f.E.length
      · rw [if_pos ⟨h2, h2⟩, if_pos h2]
      · rw [if_neg (fun h => h2 h.1), if_neg h2]
theorem meanK_start (f : Fl) (x : List UInt8) : meanK f 0 x = (typeK x).map fun q => ((q : Int), 0) := by
  unfold meanK
  cases typeK x <;> simp
theorem meanK_next {f : Fl} (hp : (namesF f).Pairwise (· ≠ ·)) {k : Nat} {y : List UInt8} (h : (namesF f)[k]? = some y) (ht : typeK y = none) (x : List UInt8) :
    meanK f (k + 1) x = if x = y then (if k < f.M.length then some (9, (k : Int)) else some (6, ((k - f.M.length : Nat) : Int))) else meanK f k x := by
  have hk := (List.getElem?_eq_some_iff.1 h).1
  by_cases hx : x = y
  · subst hx
    rw [if_pos rfl]
    unfold meanK
    rw [ht, idx_pair hp h]
    simp only
    rw [if_pos ⟨by omega, hk⟩]
  · rw [if_neg hx]
    unfold meanK
    cases typeK x with
    | some q => rfl
    | none =>
      simp only
      by_cases hl : (namesF f).idxOf x < (namesF f).length
      · have hne : (namesF f).idxOf x ≠ k := by
          intro e
          have h1 : (namesF f)[(namesF f).idxOf x]? = some x := by rw [List.getElem?_eq_getElem hl, List.getElem_idxOf hl]
          rw [e, h] at h1
          exact hx (Option.some.inj h1).symm
        by_cases h2 : (namesF f).idxOf x < k
        · rw [if_pos (show _ ∧ _ from ⟨by omega, hl⟩), if_pos (show _ ∧ _ from ⟨h2, hl⟩)]
        · rw [if_neg (by omega), if_neg (by omega)]
      · rw [if_neg (fun h => hl h.2), if_neg (fun h => hl h.2)]

/-! ### Enums -/

/-- Is the name, or the number, at place k of an enum wrong? -/
def wrongB (V : List (List UInt8)) (N : List Int) (k : Nat) (x : List UInt8) (n : Int) : Bool :=
  (V.take k).contains x || (N.take k).contains n || !(decide (-2147483648 ≤ n) && decide (n ≤ 2147483647)) || (k == 0 && n != 0)
theorem wrong_vl {e : En} {k : Nat} {x : Vl} : vlErr e k x = if wrongB (e.V.map (·.name)) (e.V.map (·.n)) k x.name x.n then some (x.at_, 4) else none := by
  unfold vlErr wrongB
  rw [any_or (fun y : Vl => y.name == x.name) (fun y : Vl => y.n == x.n), take_map_contains, take_map_contains]
  have e1 : (!(decide (-2147483648 ≤ x.n) && decide (x.n ≤ 2147483647))) = (decide (x.n < -2147483648) || decide (2147483647 < x.n)) := by
    by_cases h1 : x.n < -2147483648 <;> by_cases h2 : 2147483647 < x.n
    · exfalso; omega
    all_goals
      first
        | have a1 : decide (-2147483648 ≤ x.n) = true := by rw [decide_eq_true_eq]; omega
        | have a1 : decide (-2147483648 ≤ x.n) = false := by rw [decide_eq_false_iff_not]; omega
      first
        | have a2 : decide (x.n ≤ 2147483647) = true := by rw [decide_eq_true_eq]; omega
        | have a2 : decide (x.n ≤ 2147483647) = false := by rw [decide_eq_false_iff_not]; omega
      rw [a1, a2]
      simp [h1, h2]
  rw [e1]
  simp only [Bool.or_assoc]

/-! ### Schemas that may be -/

def referB (s : Sc) (kind ref : Int) : Bool := decide (0 ≤ kind) && decide (kind < 10) && decide (0 ≤ ref) && decide (ref < if kind = 9 then (s.M.length : Int) else if kind = 6 then (s.E.length : Int) else 1)
def fdMayB (s : Sc) (d : Df) : Bool := !(decide (d.key ≠ -1) && !keyedB d.key) && referB s d.kind d.ref && standB 30 d.one d.rep (decide (d.key ≠ -1))
theorem dfMay_iff (s : Sc) (d : Df) : DfMay s d ↔ numberB d.no = true ∧ fdMayB s d = true := by
  unfold fdMayB referB standB
  constructor
  · intro h
    refine ⟨h.num, ?_⟩
    have h9 := h.k9
    have hr := h.ref
    have e0 : decide (d.ref < if d.kind = 9 then (s.M.length : Int) else if d.kind = 6 then (s.E.length : Int) else 1) = true := by
      rw [decide_eq_true_eq]
      split at hr
      · rename_i h1; rw [if_pos h1]; omega
      · rename_i h1
        rw [if_neg h1]
        split at hr
        · rename_i h2; rw [if_pos h2]; omega
        · rename_i h2; rw [if_neg h2]; omega
    rw [decide_eq_true h.k0, decide_eq_true (show d.kind < 10 by omega), decide_eq_true h.r0, e0, decide_eq_true h.o0, decide_eq_true h.o30]
    rcases h.key with hk | ⟨hk, hrep⟩
    · rcases h.alone with ho | ⟨ho, -⟩
      · simp [hk, ho]
      · simp [hk, ho]
    · rcases h.alone with ho | ⟨ho, hk2⟩
      · simp [hk, ho, hrep]
      · simp [hk2, hrep]
  · rintro ⟨hn, h⟩
    simp only [Bool.and_eq_true, decide_eq_true_eq, Bool.not_eq_true', Bool.and_eq_false_iff, Bool.or_eq_false_iff, decide_eq_false_iff_not, Bool.not_eq_false', Classical.not_not] at h
    obtain ⟨⟨a1, ⟨⟨a2, a3⟩, a4⟩, a5⟩, ⟨⟨a6, a7⟩, a8⟩, a9⟩ := h
    refine ⟨hn, a2, by omega, a6, a7, a4, ?_, ?_, ?_⟩
    · split
      · rename_i h1; rw [if_pos h1] at a5; omega
      · rename_i h1
        rw [if_neg h1] at a5
        split
        · rename_i h2; rw [if_pos h2] at a5; omega
        · rename_i h2; rw [if_neg h2] at a5; omega
    · by_cases hk : d.key = -1
      · exact .inl hk
      · refine .inr ⟨?_, ?_⟩
        · rcases a1 with a1 | a1
          · exact absurd a1 hk
          · exact a1
        · rcases a8 with a8 | a8
          · exact a8
          · exact absurd a8 hk
    · rcases a9 with a9 | a9
      · exact .inl a9
      · exact .inr a9
/-- The number of the field ahead. -/
def lastNo (l : List Df) (k : Nat) : Int := if k = 0 then 0 else (l[k - 1]?.map (·.no)).getD 0
def mdNames (m : Md) : List (List UInt8) := m.F.map (·.name)
def mdAtB (s : Sc) (m : Md) (k : Nat) (d : Df) : Bool := !decide (d.no ≤ lastNo m.F k) && numberB d.no && still (mdNames m) [] k d.name && fdMayB s d
theorem mdMay_iff (s : Sc) (m : Md) : MdMay s m ↔ m.F.length ≤ 30 ∧ ∀ k d, m.F[k]? = some d → mdAtB s m k d = true := by
  constructor
  · intro h
    refine ⟨h.few, fun k d hd => ?_⟩
    have hmem := List.mem_of_getElem? hd
    obtain ⟨a1, a2⟩ := (dfMay_iff s d).1 (h.each d hmem)
    unfold mdAtB
    rw [a1, a2, still_self (by simp [mdNames, hd]), mdNames, take_map_contains]
    have e1 : decide (d.no ≤ lastNo m.F k) = false := by
      rw [decide_eq_false_iff_not]
      unfold lastNo
      split
      · have := a1
        unfold numberB at this
        simp only [Bool.and_eq_true, decide_eq_true_eq] at this
        omega
      · rename_i hk
        obtain ⟨hlt, rfl⟩ := List.getElem?_eq_some_iff.1 hd
        have := (List.pairwise_iff_getElem.1 h.rise) (k - 1) k (by omega) hlt (by omega)
        rw [List.getElem?_eq_getElem (by omega)]
        simp only [Option.map_some, Option.getD_some]
        omega
    have e2 : ((m.F.take k).any fun x => x.name == d.name) = false := by
      have h2 : (m.F.Pairwise fun a b => (a.name == b.name) = false) := h.names.imp fun {a b} hab => by simpa using hab
      exact (pair_take (R := fun a b : Df => a.name == b.name)).2 h2 k d hd
    rw [e1, e2]
    rfl
  · rintro ⟨hf, h⟩
    have hp : ∀ k d, m.F[k]? = some d → d.no > lastNo m.F k ∧ numberB d.no = true ∧ ((m.F.take k).any fun x => x.name == d.name) = false ∧ fdMayB s d = true := by
      intro k d hd
      have := h k d hd
      unfold mdAtB at this
      rw [still_self (by simp [mdNames, hd]), mdNames, take_map_contains] at this
      simp only [Bool.and_eq_true, Bool.not_eq_true', decide_eq_false_iff_not, List.contains_nil, Bool.not_false, Bool.true_and] at this
      obtain ⟨⟨⟨b1, b2⟩, b3⟩, b4⟩ := this
      exact ⟨by omega, b2, by simpa using b3, b4⟩
    refine ⟨hf, ?_, ?_, fun d hd => ?_⟩
    · rw [List.pairwise_iff_getElem]
      intro i j
      induction j with
      | zero => intro _ _ h0; omega
      | succ j ih =>
        intro hi hj hij
        have h1 := (hp (j + 1) _ (List.getElem?_eq_getElem hj)).1
        unfold lastNo at h1
        rw [if_neg (by omega), Nat.add_sub_cancel, List.getElem?_eq_getElem (by omega)] at h1
        simp only [Option.map_some, Option.getD_some] at h1
        by_cases he : i = j
        · subst he; omega
        · have := ih hi (by omega) (by omega)
          omega
    · have h2 : (m.F.Pairwise fun a b => (a.name == b.name) = false) := pair_take.1 fun k x hx => (hp k x hx).2.2.1
      exact h2.imp fun {a b} hab => by simpa using hab
    · obtain ⟨k, hk⟩ := List.mem_iff_getElem?.1 hd
      have := hp k d hk
      exact (dfMay_iff s d).2 ⟨this.2.1, this.2.2.2⟩
def edAtB (e : Ed) (k : Nat) (x : List UInt8) (n : Int) : Bool := !wrongB e.V e.N k x n
theorem contains_pair {α : Type} [BEq α] [LawfulBEq α] {l : List α} : (∀ k x, l[k]? = some x → (l.take k).contains x = false) ↔ l.Pairwise (· ≠ ·) := by
  have h2 : (l.Pairwise fun a b => (a == b) = false) ↔ l.Pairwise (· ≠ ·) := by
    constructor <;> intro hp <;> exact hp.imp fun {a b} hab => by simpa using hab
  rw [← h2, ← pair_take]
  have e : ∀ k x, (l.take k).contains x = (l.take k).any (· == x) := fun k x => by
    rw [List.contains_eq_any_beq]
    congr 1
    funext y
    exact BEq.comm
  simp only [e]
theorem edMay_iff (e : Ed) : EdMay e ↔ 1 ≤ e.V.length ∧ e.V.length ≤ 30 ∧ e.V.length = e.N.length ∧ ∀ k x n, e.V[k]? = some x → e.N[k]? = some n → wrongB e.V e.N k x n = false := by
  constructor
  · intro h
    refine ⟨h.some_, h.few, h.same.symm, fun k x n hx hn => ?_⟩
    unfold wrongB
    have hr := h.each n (List.mem_of_getElem? hn)
    rw [contains_pair.2 h.names k x hx, contains_pair.2 h.nums k n hn, decide_eq_true hr.1, decide_eq_true hr.2]
    by_cases hk : k = 0
    · subst hk
      have := h.zero
      rw [hn] at this
      obtain rfl := Option.some.inj this
      rfl
    · simp [hk]
  · rintro ⟨h1, h2, h3, h4⟩
    have key : ∀ k (hk : k < e.V.length), (e.V.take k).contains e.V[k] = false ∧ (e.N.take k).contains (e.N[k]'(by omega)) = false ∧ (-2147483648 ≤ (e.N[k]'(by omega)) ∧ (e.N[k]'(by omega)) ≤ 2147483647) ∧ (k = 0 → (e.N[k]'(by omega)) = 0) := by
      intro k hk
      have := h4 k _ _ (List.getElem?_eq_getElem hk) (List.getElem?_eq_getElem (by omega))
      unfold wrongB at this
      simp only [Bool.or_eq_false_iff, Bool.not_eq_false', Bool.and_eq_true, decide_eq_true_eq, Bool.and_eq_false_iff, beq_eq_false_iff_ne, bne_eq_false_iff_eq] at this
      obtain ⟨⟨⟨b1, b2⟩, b3⟩, b4⟩ := this
      exact ⟨b1, b2, b3, fun h0 => by rcases b4 with b4 | b4; exact absurd h0 b4; exact b4⟩
    refine ⟨h1, h2, h3.symm, ?_, ?_, ?_, fun n hn => ?_⟩
    · rw [List.getElem?_eq_getElem (by omega), (key 0 (by omega)).2.2.2 rfl]
    · refine contains_pair.1 fun k x hx => ?_
      obtain ⟨hk, rfl⟩ := List.getElem?_eq_some_iff.1 hx
      exact (key k hk).1
    · refine contains_pair.1 fun k x hx => ?_
      obtain ⟨hk, rfl⟩ := List.getElem?_eq_some_iff.1 hx
      exact (key k (by omega)).2.1
    · obtain ⟨k, hk⟩ := List.mem_iff_getElem?.1 hn
      obtain ⟨hk, rfl⟩ := List.getElem?_eq_some_iff.1 hk
      exact (key k (by omega)).2.2.1
theorem scMay_iff (s : Sc) : ScMay s ↔ 1 ≤ s.M.length ∧ s.M.length ≤ 20 ∧ s.E.length ≤ 20 ∧ (∀ k x, (namesS s)[k]? = some x → stillT (namesS s) k x = true) ∧ (∀ m ∈ s.M, MdMay s m) ∧ ∀ e ∈ s.E, EdMay e := by
  have key : (∀ k x, (namesS s)[k]? = some x → stillT (namesS s) k x = true) ↔ (namesS s).Pairwise (· ≠ ·) ∧ ∀ x ∈ namesS s, typeK x = none := by
    rw [← contains_pair]
    constructor
    · intro h
      have h' : ∀ k x, (namesS s)[k]? = some x → typeK x = none ∧ ((namesS s).take k).contains x = false := fun k x hx => by
        have := h k x hx
        rw [stillT_self hx] at this
        cases ht : typeK x <;> cases hc : ((namesS s).take k).contains x <;> simp_all
      exact ⟨fun k x hx => (h' k x hx).2, fun x hx => by obtain ⟨k, hk⟩ := List.mem_iff_getElem?.1 hx; exact (h' k x hk).1⟩
    · rintro ⟨h1, h2⟩ k x hx
      rw [stillT_self hx, h1 k x hx, h2 x (List.mem_of_getElem? hx)]
      rfl
  constructor
  · intro h
    exact ⟨h.some_, h.fewM, h.fewE, key.2 ⟨h.names, h.plain⟩, h.M, h.E⟩
  · rintro ⟨h1, h2, h3, h4, h5, h6⟩
    obtain ⟨k1, k2⟩ := key.1 h4
    exact ⟨h1, h2, h3, k1, k2, h5, h6⟩
end Go.Proofs.YtipaangiehdgkaaGreatDoor
/-
  A number's text: its digits, what digits spell, and what is told of digits with a sign or not.
-/
namespace Go.Proofs.YtipaangiehdgkaaGreatDoor
set_option maxRecDepth 100000

theorem dval_nil (a : Nat) : dval a [] = a := by unfold dval; rw [List.foldl_nil]
theorem dval_cons (a : Nat) (c : UInt8) (r : List UInt8) : dval a (c :: r) = dval (10 * a + (c.toNat - 48)) r := by unfold dval; rw [List.foldl_cons]
theorem dval_app (c : UInt8) (l : List UInt8) : ∀ (a : Nat), dval a (l ++ [c]) = 10 * dval a l + (c.toNat - 48) := by
  induction l with
  | nil => intro a; simp [dval_nil, dval_cons]
  | cons d r ih => intro a; rw [List.cons_append, dval_cons, dval_cons, ih]
theorem digit_of {k : Nat} (h : k < 10) : isDigit (UInt8.ofNat (48 + k)) = true ∧ (UInt8.ofNat (48 + k)).toNat = 48 + k := by
  have e : (UInt8.ofNat (48 + k)).toNat = 48 + k := by simp; omega
  exact ⟨by simp only [isDigit, e, Bool.and_eq_true, decide_eq_true_eq]; omega, e⟩
theorem dec_step {u : Nat} (h : ¬ u < 10) : Lib.decDigits u = Lib.decDigits (u / 10) ++ [UInt8.ofNat (48 + u % 10)] := by
  rw [Lib.decDigits, dif_neg h]
theorem dec_val (u : Nat) : dval 0 (Lib.decDigits u) = u := by
  by_cases h : u < 10
  · rw [Lib.decDigits_one h]
    simp only [dval_nil, dval_cons, (digit_of h).2]; omega
  · rw [dec_step h, dval_app, dec_val (u / 10), (digit_of (Nat.mod_lt u (by decide))).2]
    omega
  termination_by u
theorem dec_digits (u : Nat) : ∀ c ∈ Lib.decDigits u, isDigit c = true := by
  by_cases h : u < 10
  · rw [Lib.decDigits_one h]
    intro c hc
    rw [List.mem_singleton.1 hc]
    exact (digit_of h).1
  · rw [dec_step h]
    intro c hc
    rw [List.mem_append] at hc
    rcases hc with hc | hc
    · exact dec_digits (u / 10) c hc
    · rw [List.mem_singleton.1 hc]
      exact (digit_of (Nat.mod_lt u (by decide))).1
  termination_by u
theorem dec_ne (u : Nat) : Lib.decDigits u ≠ [] := by
  intro h
  have := Lib.decDigits_length u
  have h1 := Lib.nDigits_pos u
  rw [h] at this
  simp at this; omega
theorem nDigits_le (k : Nat) : ∀ u, u < 10 ^ (k + 1) → Lib.nDigits u ≤ k + 1 := by
  induction k with
  | zero => intro u h; rw [Lib.nDigits_small (by simpa using h)]; omega
  | succ k ih =>
    intro u h
    by_cases h10 : u < 10
    · rw [Lib.nDigits_small h10]; omega
    · rw [Lib.nDigits_big h10]
      have := ih (u / 10) (by rw [Nat.pow_succ] at h; omega)
      omega

theorem itoa_nonneg (n : Int) (h : 0 ≤ n) : Lib.itoa n = Lib.decDigits n.toNat := by unfold Lib.itoa; rw [if_neg (by omega)]
theorem itoa_neg (n : Int) (h : n < 0) : Lib.itoa n = 45 :: Lib.decDigits n.natAbs := by unfold Lib.itoa; rw [if_pos h]

/-- What a text of a number spells. -/
def spell (t : List UInt8) : Int :=
  match t with
  | [] => 0
  | c :: r => if c = 45 then -(dval 0 r : Int) else (dval 0 (c :: r) : Int)
theorem spell_itoa (n : Int) : spell (Lib.itoa n) = n := by
  by_cases h : n < 0
  · rw [itoa_neg n h]
    simp only [spell, if_true, dec_val]
    omega
  · rw [itoa_nonneg n (by omega)]
    have h1 := dec_digits n.toNat
    have h2 := dec_val n.toNat
    revert h1 h2
    cases hd : Lib.decDigits n.toNat with
    | nil => exact absurd hd (dec_ne _)
    | cons c r =>
      intro h1 h2
      have hc := h1 c (by simp)
      have h45 : c ≠ 45 := by intro e; subst e; simp [isDigit] at hc
      simp only [spell, h45, if_false, h2]
      omega
theorem itoa_inj {n k : Int} (h : Lib.itoa n = Lib.itoa k) : n = k := by rw [← spell_itoa n, h, spell_itoa]
theorem numOf_eq (t : List UInt8) : numOf Lib.itoa t = if t ≠ [] ∧ -9223372036854775808 ≤ spell t ∧ spell t ≤ 9223372036854775807 ∧ Lib.itoa (spell t) = t then some (spell t) else none := by
  cases t with
  | nil => simp [numOf]
  | cons c r => simp [numOf, spell]
theorem itoa_ne (n : Int) : Lib.itoa n ≠ [] := by
  by_cases h : n < 0
  · rw [itoa_neg n h]; simp
  · rw [itoa_nonneg n (by omega)]; exact dec_ne _
theorem numOf_itoa {n : Int} (h0 : -9223372036854775808 ≤ n) (h1 : n ≤ 9223372036854775807) : numOf Lib.itoa (Lib.itoa n) = some n := by
  rw [numOf_eq, spell_itoa, if_pos ⟨itoa_ne n, h0, h1, rfl⟩]
theorem numOf_some {t : List UInt8} {n : Int} (h : numOf Lib.itoa t = some n) : t = Lib.itoa n ∧ -9223372036854775808 ≤ n ∧ n ≤ 9223372036854775807 := by
  rw [numOf_eq] at h
  split at h
  · rename_i hc
    cases h
    exact ⟨hc.2.2.2.symm, hc.2.1, hc.2.2.1⟩
  · cases h
/-- Digits, with a sign ahead or not. -/
def numText (t : List UInt8) : Prop := ∃ c r, t = c :: r ∧ (c = 45 ∨ isDigit c = true) ∧ ∀ d ∈ r, isDigit d = true

theorem dval_ge : ∀ (l : List UInt8) (a : Nat), a ≤ dval a l
  | [], _ => Nat.le_refl _
  | c :: r, a => by
    have := dval_ge r (10 * a + (c.toNat - 48))
    simp only [dval_nil, dval_cons]; omega
theorem parse_digits : ∀ (l : List UInt8), (∀ d ∈ l, isDigit d = true) → ∀ a, a < 18446744073709551616 → Lib.parseUint10 a l = if dval a l < 18446744073709551616 then .ok (dval a l) else .range
  | [], _, a, ha => by simp [Lib.parseUint10, dval_nil, ha]
  | c :: r, h, a, ha => by
    have hc := h c (by simp)
    simp only [isDigit, Bool.and_eq_true, decide_eq_true_eq] at hc
    have ge := dval_ge r (10 * a + (c.toNat - 48))
    rw [dval_cons, Lib.parseUint10, if_pos hc]
    by_cases h1 : 1844674407370955162 ≤ a
    · rw [if_pos h1, if_neg (by omega)]
    · rw [if_neg h1, show a * 10 + (c.toNat - 48) = 10 * a + (c.toNat - 48) by omega]
      by_cases h2 : 18446744073709551616 ≤ 10 * a + (c.toNat - 48)
      · rw [if_pos h2, if_neg (by omega)]
      · rw [if_neg h2, parse_digits r (fun d hd => h d (by simp [hd])) _ (by omega)]
theorem code_num {t : List UInt8} (h : numText t) :
    (∀ v, Lib.parseIntB 64 t = .ok v → numOf Lib.itoa t = if Lib.itoa v = t then some v else none) ∧ ((∀ v, Lib.parseIntB 64 t ≠ .ok v) → numOf Lib.itoa t = none) := by
  obtain ⟨c, r, rfl, hc, hr⟩ := h
  rw [Lib.parseIntB_64, numOf_eq]
  by_cases h45 : c = 45
  · subst h45
    rw [Lib.atoiAll_minus]
    have hs : spell (45 :: r) = -(dval 0 r : Int) := by simp [spell]
    rw [hs]
    by_cases hn : r = []
    · subst hn
      refine ⟨fun v hv => by simp [Lib.parseMag, Lib.signed] at hv, fun _ => ?_⟩
      rw [if_neg]
      rintro ⟨_, _, _, h⟩
      simp only [dval_nil, dval_cons] at h
      rw [itoa_nonneg _ (by omega)] at h
      simp [Lib.decDigits_one] at h
    · have hm : Lib.parseMag r = if dval 0 r < 18446744073709551616 then .ok (dval 0 r) else .range := by
        simp only [Lib.parseMag, hn, if_false]
        exact parse_digits r hr 0 (by omega)
      rw [hm]
      by_cases h1 : dval 0 r < 18446744073709551616
      · rw [if_pos h1]
        simp only [Lib.signed]
        by_cases h2 : 9223372036854775808 < dval 0 r
        · rw [if_pos h2]
          exact ⟨fun v hv => (by cases hv), fun _ => by rw [if_neg (by omega)]⟩
        · rw [if_neg h2]
          refine ⟨fun v hv => ?_, fun hv => absurd rfl (hv _)⟩
          injection hv with hv
          subst hv
          by_cases he : Lib.itoa (-(dval 0 r : Int)) = 45 :: r
          · rw [if_pos he, if_pos ⟨by simp, by omega, by omega, he⟩]
          · rw [if_neg he, if_neg (by rintro ⟨_, _, _, h⟩; exact he h)]
      · rw [if_neg h1]
        exact ⟨fun v hv => by simp [Lib.signed] at hv, fun _ => by rw [if_neg (by omega)]⟩
  · have hd : isDigit c = true := by rcases hc with hc | hc; exact absurd hc h45; exact hc
    have hall : ∀ d ∈ c :: r, isDigit d = true := by intro d hd'; rcases List.mem_cons.1 hd' with rfl | h; exact hd; exact hr d h
    have h43 : c.toNat ≠ 43 := by intro e; simp [isDigit, e] at hd
    have h45' : c.toNat ≠ 45 := fun e => h45 (UInt8.toNat_inj.1 e)
    rw [Lib.atoiAll_plain c r h43 h45']
    have hs : spell (c :: r) = (dval 0 (c :: r) : Int) := by simp [spell, h45]
    rw [hs]
    have hm : Lib.parseMag (c :: r) = if dval 0 (c :: r) < 18446744073709551616 then .ok (dval 0 (c :: r)) else .range := by
      simp only [Lib.parseMag, reduceCtorEq, if_false]
      exact parse_digits (c :: r) hall 0 (by omega)
    rw [hm]
    by_cases h1 : dval 0 (c :: r) < 18446744073709551616
    · rw [if_pos h1]
      simp only [Lib.signless]
      by_cases h2 : 9223372036854775808 ≤ dval 0 (c :: r)
      · rw [if_pos h2]
        exact ⟨fun v hv => (by cases hv), fun _ => by rw [if_neg (by omega)]⟩
      · rw [if_neg h2]
        refine ⟨fun v hv => ?_, fun hv => absurd rfl (hv _)⟩
        injection hv with hv
        subst hv
        by_cases he : Lib.itoa (dval 0 (c :: r) : Int) = c :: r
        · rw [if_pos he, if_pos ⟨by simp, by omega, by omega, he⟩]
        · rw [if_neg he, if_neg (by rintro ⟨_, _, _, h⟩; exact he h)]
    · rw [if_neg h1]
      exact ⟨fun v hv => by simp [Lib.signless] at hv, fun _ => by rw [if_neg (by omega)]⟩

/-! ### The document's way -/

theorem dval_bound : ∀ (l : List UInt8), (∀ d ∈ l, isDigit d = true) → ∀ a k, a < 10 ^ k → dval a l < 10 ^ (k + l.length)
  | [], _, a, k, h => by simpa [dval_nil] using h
  | c :: r, h, a, k, ha => by
    have hc := h c (by simp)
    simp only [isDigit, Bool.and_eq_true, decide_eq_true_eq] at hc
    have := dval_bound r (fun d hd => h d (by simp [hd])) (10 * a + (c.toNat - 48)) (k + 1) (by rw [Nat.pow_succ]; omega)
    simp only [dval_nil, dval_cons, List.length_cons]
    rw [show k + (r.length + 1) = k + 1 + r.length by omega]
    exact this
/-- The digits behind the sign. -/
def mags (t : List UInt8) : List UInt8 := if t.head? = some 45 then t.tail else t
theorem spell_mags {t : List UInt8} (h : numText t) : spell t = if t.head? = some 45 then -(dval 0 (mags t) : Int) else (dval 0 (mags t) : Int) := by
  obtain ⟨c, r, rfl, hc, hr⟩ := h
  by_cases h45 : c = 45
  · subst h45; simp [spell, mags]
  · simp [spell, mags, h45]
theorem mags_digits {t : List UInt8} (h : numText t) : ∀ d ∈ mags t, isDigit d = true := by
  obtain ⟨c, r, rfl, hc, hr⟩ := h
  by_cases h45 : c = 45
  · subst h45; simpa [mags] using hr
  · have hd : isDigit c = true := by rcases hc with hc | hc; exact absurd hc h45; exact hc
    simp only [mags, List.head?_cons, Option.some.injEq, h45, if_false]
    intro d hd'; rcases List.mem_cons.1 hd' with rfl | h; exact hd; exact hr d h
theorem mags_itoa (n : Int) : mags (Lib.itoa n) = Lib.decDigits n.natAbs := by
  by_cases h : n < 0
  · rw [itoa_neg n h]; simp [mags]
  · rw [itoa_nonneg n (by omega), show n.natAbs = n.toNat by omega]
    have h1 := dec_digits n.toNat
    revert h1
    cases hd : Lib.decDigits n.toNat with
    | nil => exact absurd hd (dec_ne _)
    | cons c r =>
      intro h1
      have hc := h1 c (by simp)
      have h45 : c ≠ 45 := by intro e; subst e; simp [isDigit] at hc
      simp [mags, h45]
/-- More than 19 digits, or none, are no number. -/
theorem num_long {t : List UInt8} (hl : (mags t).length = 0 ∨ 19 < (mags t).length) : numOf Lib.itoa t = none := by
  cases h : numOf Lib.itoa t with
  | none => rfl
  | some n =>
    obtain ⟨rfl, h0, h1⟩ := numOf_some h
    rw [mags_itoa, Lib.decDigits_length] at hl
    have h2 := Lib.nDigits_pos n.natAbs
    have h3 := nDigits_le 18 n.natAbs (by have : (10 : Nat) ^ (18 + 1) = 10000000000000000000 := by decide
                                          omega)
    omega
/-- Up to 19 digits spell a number below 2^64. -/
theorem num_fits {t : List UInt8} (h : numText t) (hl : (mags t).length ≤ 19) : dval 0 (mags t) < 10000000000000000000 := by
  have := dval_bound (mags t) (mags_digits h) 0 0 (by simp)
  have h2 : 10 ^ (0 + (mags t).length) ≤ 10 ^ 19 := Nat.pow_le_pow_right (by decide) (by omega)
  have h3 : (10 : Nat) ^ 19 = 10000000000000000000 := by decide
  omega
end Go.Proofs.YtipaangiehdgkaaGreatDoor
/-
  A file as a text: what is printed, by plain functions.
-/
namespace Go.Proofs.YtipaangiehdgkaaGreatDoor
set_option maxRecDepth 100000

def lineB (ps : List (List UInt8)) : List UInt8 := ps.flatten ++ [10]
def digB (n : Int) : List UInt8 := Lib.itoa n
def typeB (d : Fd) : List UInt8 := if d.key ≠ [] then ([109, 97, 112, 60] ++ d.key ++ [44, 32] ++ d.type ++ [62]) else if d.rep then ([114, 101, 112, 101, 97, 116, 101, 100, 32] ++ d.type) else d.type
def fieldB (ahead : List UInt8) (d : Fd) : List UInt8 := lineB [ahead, typeB d, [32], d.name, [32, 61, 32], digB d.no, [59]]
def fieldsB (ahead : List UInt8) (l : List Fd) : List UInt8 := (l.map (fieldB ahead)).flatten
def oneB (name : List UInt8) (l : List Fd) : List UInt8 := if l = [] then [] else lineB [[32, 32], wOneof, [32], name, [32, 123]] ++ fieldsB [32, 32, 32, 32] l ++ lineB [[32, 32], [125]]
/-- Numbers, with what stands ahead of the first one. -/
def numsB (ahead : List UInt8) : List Int → List UInt8
  | [] => []
  | n :: l => ahead ++ digB n ++ numsB [44, 32] l
def resB (l : List Int) : List UInt8 := [32, 32, 114, 101, 115, 101, 114, 118, 101, 100] ++ numsB [32] l ++ lineB [[59]]
def inOne (n : Nat) (d : Fd) : Bool := decide (0 < d.one) && decide (d.one ≤ (n : Int))
/-- The place of its oneof. -/
def oneAt (d : Fd) : Nat := d.one.toNat - 1
/-- The fields of each oneof. -/
def memStep (n : Nat) (ms : List (List Fd)) (d : Fd) : List (List Fd) := if inOne n d then ms.set (oneAt d) (ms.getD (oneAt d) [] ++ [d]) else ms
def memsB (n : Nat) (l : List Fd) : List (List Fd) := l.foldl (memStep n) (List.replicate n [])
theorem memStep_length (n : Nat) (ms : List (List Fd)) (d : Fd) : (memStep n ms d).length = ms.length := by unfold memStep; split <;> simp
theorem memsB_take (n : Nat) (l : List Fd) (k : Nat) (d : Fd) (h : l[k]? = some d) : memsB n (l.take (k + 1)) = memStep n (memsB n (l.take k)) d := by
  rw [List.take_add_one, h]; simp [memsB, List.foldl_append]
theorem foldl_length (n : Nat) : ∀ (l : List Fd) (ms : List (List Fd)), (l.foldl (memStep n) ms).length = ms.length
  | [], _ => rfl
  | d :: l, ms => by rw [List.foldl_cons, foldl_length n l, memStep_length]
theorem memsB_length (n : Nat) (l : List Fd) : (memsB n l).length = n := by rw [memsB, foldl_length]; simp
theorem foldl_few (n : Nat) : ∀ (l : List Fd) (ms : List (List Fd)) (k : Nat), ((l.foldl (memStep n) ms).getD k []).length ≤ (ms.getD k []).length + l.length
  | [], _, _ => by simp
  | d :: l, ms, k => by
    rw [List.foldl_cons]
    have := foldl_few n l (memStep n ms d) k
    have h2 : ((memStep n ms d).getD k []).length ≤ (ms.getD k []).length + 1 := by
      unfold memStep
      split
      · simp only [List.getD_eq_getElem?_getD, List.getElem?_set]
        split
        · rename_i h3
          subst h3
          split
          · simp
          · simp
        · omega
      · omega
    simp only [List.length_cons]
    omega
theorem memsB_few (n : Nat) (l : List Fd) (k : Nat) : ((memsB n l).getD k []).length ≤ l.length := by
  have := foldl_few n l (List.replicate n []) k
  have h : ((List.replicate n ([] : List Fd)).getD k []).length = 0 := by
    rw [List.getD_eq_getElem?_getD, List.getElem?_replicate]
    split <;> rfl
  unfold memsB
  omega
/-- The items, one after the other: all that are in a oneof stand at the first of them. -/
def itemsB (ones : List (List UInt8)) : List (List Fd) → List Fd → List UInt8
  | _, [] => []
  | ms, d :: l => if inOne ones.length d then oneB (ones.getD (oneAt d) []) (ms.getD (oneAt d) []) ++ itemsB ones (ms.set (oneAt d) []) l else fieldB [32, 32] d ++ itemsB ones ms l
def messageB (m : Ms) : List UInt8 := lineB [wMessage, [32], m.name, [32, 123]] ++ itemsB m.ones (memsB m.ones.length m.F) m.F ++ (if m.res = [] then [] else resB m.res) ++ lineB [[125]]
def valB (v : Vl) : List UInt8 := lineB [[32, 32], v.name, [32, 61, 32], digB v.n, [59]]
def enumB (e : En) : List UInt8 := lineB [wEnum, [32], e.name, [32, 123]] ++ (e.V.map valB).flatten ++ lineB [[125]]
def fileB (f : Fl) : List UInt8 := (f.M.map messageB).flatten ++ (f.E.map enumB).flatten
theorem numsB_snoc (a : List UInt8) (l : List Int) (n : Int) : numsB a (l ++ [n]) = numsB a l ++ ((if l = [] then a else [44, 32]) ++ digB n) := by
  induction l generalizing a with
  | nil => simp [numsB]
  | cons x l ih =>
    rw [List.cons_append, numsB, ih]
    simp only [numsB, List.append_assoc, reduceCtorEq, if_false]
    split <;> rfl
end Go.Proofs.YtipaangiehdgkaaGreatDoor
