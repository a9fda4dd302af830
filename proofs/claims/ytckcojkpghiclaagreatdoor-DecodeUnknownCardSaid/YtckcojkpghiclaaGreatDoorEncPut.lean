/-
 A record's bytes: the contract of the document's own function that puts them.
-/
import Derived.Test.YtckcojkpghiclaaGreatDoorRecPut
import Derived.BigQuiet
import Derived.RangeFuncNested
import Derived.RangeFuncBound
import Derived.RangeFuncCalls
import Derived.RangeFuncLeaves
import Derived.Shelf.Abstract
import Derived.Shelf.RegionOpen
import Derived.OwnWalkIn
import Derived.TacticsInMore
import Derived.LoopNIn
import Derived.LoopIn
import Derived.Test.YtckcojkpghiclaaGreatDoorVarPut
import Derived.Test.YtckcojkpghiclaaGreatDoorTrRsame
import Derived.Deep.RegionHeldLaw
import Derived.Deep.RegionLaw
import Derived.Deep.RegionHeld3
namespace Go.Proofs.YtckcojkpghiclaaGreatDoor
set_option maxRecDepth 100000
open Go.RowKit
end Go.Proofs.YtckcojkpghiclaaGreatDoor
/-
 Slices of records that read as lists; the contract of the function that holds two of them against each other.
-/
namespace Go.Proofs.YtckcojkpghiclaaGreatDoor
set_option maxRecDepth 100000
open Go.RowKit
def rs (l : List Rc) : List Value := l.flatMap RC
theorem rs_append (a b : List Rc) : rs (a ++ b) = rs a ++ rs b := by simp [rs]
theorem rs_cons (r : Rc) (l : List Rc) : rs (r :: l) = RC r ++ rs l := by simp [rs]
theorem rs_get : ∀ (l : List Rc) (k j : Nat) (r : Rc), l[k]? = some r → j < 5 → (rs l)[k * 5 + j]? = (RC r)[j]?
 | [], k, j, r, h, _ => by simp at h
 | x :: l, 0, j, r, h, hj => by
  obtain rfl : x = r := by simpa using h
  rw [rs_cons, Nat.zero_mul, Nat.zero_add, List.getElem?_append_left (by simp [RC]; omega)]
 | x :: l, k + 1, j, r, h, hj => by
  rw [rs_cons, List.getElem?_append_right (by simp [RC]; omega)]
  rw [show (k + 1) * 5 + j - (RC x).length = k * 5 + j by simp [RC]; omega]
  exact rs_get l k j r (by simpa using h) hj
theorem rs_one (a : List Rc) : ∀ u ∈ rs a, u.oneCell' = true := by
 intro u hu
 obtain ⟨r, _, hr⟩ := List.mem_flatMap.1 hu
 simp only [RC, List.mem_cons, List.not_mem_nil, or_false] at hr
 rcases hr with rfl | rfl | rfl | rfl | rfl <;> rfl
def SlR (w : World) (A : Option Addr) (c : Nat) (l : List Rc) : Prop := Sl w A l.length c 5 (rs l)
theorem SlR.on {w w' : World} {A : Option Addr} {c : Nat} {l : List Rc} (h : SlR w A c l) (hb : Below w.heap.size w w') : SlR w' A c l := Sl.on h hb
theorem SlR.nil (w : World) : SlR w none 0 [] := Sl.nothing w 5
theorem SlR.of_own {w : World} {base : Nat} {e : TypeId} {v : Value} {l : List Rc} (h : w.ownsRow base e 5 v l.length (rs l)) : ∃ A c, v = .slice A l.length c ∧ SlR w A c l := Sl.of_own h
theorem SlR.at_ {w : World} {A : Option Addr} {c : Nat} {l : List Rc} (h : SlR w A c l) {k : Nat} (hk : k < l.length) : ∃ ad r, A = some ad ∧ ad.block < w.heap.size ∧ l[k]? = some r ∧
  w.cell? (ad.add (k * 5)) = some (.int .i64 r.no) ∧ w.cell? ⟨(ad.add (k * 5)).block, (ad.add (k * 5)).off + 1, none⟩ = some (.int .i64 r.wire) ∧ w.cell? ⟨(ad.add (k * 5)).block, (ad.add (k * 5)).off + 2, none⟩ = some (.int .u64 r.num) ∧
  w.cell? ⟨(ad.add (k * 5)).block, (ad.add (k * 5)).off + 3, none⟩ = some (.int .i64 r.frm) ∧ w.cell? ⟨(ad.add (k * 5)).block, (ad.add (k * 5)).off + 4, none⟩ = some (.int .i64 r.upto) := by
 obtain ⟨ad, rfl, hb, hcell⟩ := Sl.there h (by omega)
 have hg : l[k]? = some l[k] := List.getElem?_eq_getElem hk
 have hadd : ∀ j : Nat, 0 < j → (⟨(ad.add (k * 5)).block, (ad.add (k * 5)).off + j, none⟩ : Addr) = ad.add (k * 5 + j) := fun j hj => by
  rw [← add_twice]
  cases j with
  | zero => omega
  | succ j => simp [Addr.add]
 refine ⟨ad, l[k], rfl, hb, hg, ?_, ?_, ?_, ?_, ?_⟩
 ·exact hcell (k * 5) _ (by have := rs_get l k 0 _ hg (by omega); rw [Nat.add_zero] at this; rw [this]; rfl)
 ·rw [hadd 1 (by omega)]; exact hcell _ _ (by rw [rs_get l k 1 _ hg (by omega)]; rfl)
 ·rw [hadd 2 (by omega)]; exact hcell _ _ (by rw [rs_get l k 2 _ hg (by omega)]; rfl)
 ·rw [hadd 3 (by omega)]; exact hcell _ _ (by rw [rs_get l k 3 _ hg (by omega)]; rfl)
 ·rw [hadd 4 (by omega)]; exact hcell _ _ (by rw [rs_get l k 4 _ hg (by omega)]; rfl)
end Go.Proofs.YtckcojkpghiclaaGreatDoor
/-
 All records from one place to another one, by the document's own function: its contract.
-/
namespace Go.Proofs.YtckcojkpghiclaaGreatDoor
set_option maxRecDepth 100000
open Go.RowKit
theorem infoRecs : (Tryz.prog.info? 41).map (fun i => (i.zero, i.size, i.bytes)) = some (some (.agg #[.int .i64 0, .int .i64 0, .int .u64 0, .int .i64 0, .int .i64 0]), 5, 40) := by kernel_rfl
theorem lit_rec (w : World) (r : Rc) : Sl (w.alloc (.cells #[.int .i64 r.no, .int .i64 r.wire, .int .u64 r.num, .int .i64 r.frm, .int .i64 r.upto] 41)) (some ⟨w.heap.size, 0, none⟩) 1 1 5 (rs [r]) := by
 refine ⟨by simp [rs, RC], Nat.le_refl _, by unfold maxLen; omega, by simp, fun ad ha _ => ?_, fun ad ha k u hu => ?_⟩
 ·obtain rfl := Option.some.inj ha
  simp
 ·obtain rfl := Option.some.inj ha
  rw [Addr.add_lit, World.cell?_alloc_at _ _ _ _ rfl]
  simpa [rs, RC] using hu
theorem lit_rec2 (w : World) (o : Obj) (r : Rc) : Sl ((w.alloc o).alloc (.cells #[.int .i64 r.no, .int .i64 r.wire, .int .u64 r.num, .int .i64 r.frm, .int .i64 r.upto] 41)) (some ⟨w.heap.size + 1, 0, none⟩) 1 1 5 (rs [r]) := by
 have h := lit_rec (w.alloc o) r
 rwa [World.size_alloc] at h
def RallRel (w : World) (l : List UInt8) (a u : Nat) (X : List Rc × Nat) (i v : Value) (w' : World) : Prop :=
 ∃ (p : Nat) (pre : List Rc), i = .int .i64 p ∧ a ≤ p ∧ p ≤ u ∧ pre.length ≤ p ∧ w'.ownsRow w.heap.size 41 5 v pre.length (rs pre) ∧ X = (pre ++ (recs l u p).1, (recs l u p).2) ∧ Below w.heap.size w w'
set_option maxRecDepth 1000000 in
set_option maxHeartbeats 2000000 in
theorem rall_any5 (A : Option Addr) (c : Nat) (l : List UInt8) (a u : Int) (hl : l.length ≤ 1000000) (w : World) (h1 : SlB w A c l) :
  Calls Tryz.prog 19 #[.slice A l.length c, .int .i64 a, .int .i64 u] w fun e w' => ∃ A' c', e = .returned (.tuple #[.slice A' (allR l a u).1.length c', .int .i64 (allR l a u).2]) ∧ SlR w' A' c' (allR l a u).1 ∧ Below w.heap.size w w' := by
 obtain ⟨i0, hi, hz0, hz1, hz2⟩ := info_parts infoRecs
 by_cases hm : mayB a u l.length = true
 ·have hR : allR l a u = recs l u.toNat a.toNat := by unfold allR; rw [if_pos hm]
  rw [hR]
  have h' := mayB_true.1 hm
  obtain ⟨an, rfl⟩ := Int.eq_ofNat_of_zero_le h'.1
  obtain ⟨un, rfl⟩ := Int.eq_ofNat_of_zero_le (show 0 ≤ u by omega)
  simp only [Int.toNat_natCast]
  generalize hX : recs l un an = X at *
  clear hR
  go_enter Tryz.func19, Tryz.ntmps19
  go_wp2_with fail
  refine (may_any5 _ _ _ _ _ _ (by omega)).mono ?_
  rintro e w' ⟨rfl, rfl⟩
  rw [hm]
  go_wp2
  go_loopw [1, 9] (fun i v wr => RallRel w l an un X i v wr) (fun i _ _ => un - (intOf i).toNat)
  case atStart => exact ⟨an, [], rfl, by omega, by omega, by simp, World.ownsRow_nil _ _ _ _, by rw [← hX]; simp, Below.refl _ _⟩
  case round =>
   obtain ⟨p, pre, rfl, hap, hpu, hpl, hown, hrel, hb⟩ := hrel
   have HR := Lib.hid hrel
   clear hrel
   by_cases hlt : p < un
   ·obtain ⟨r, q, x, hn⟩ : ∃ r q x, nextR l p un = (r, q, x) := ⟨_, _, _, rfl⟩
    by_cases hx : x = 0
    ·subst hx
     obtain ⟨-, hk1, hk2, hk3, -, -, -⟩ := next_ok hn
     have HS := Lib.hid (recs_step hlt hn)
     have HN := Lib.hid hn
     clear hn hX
     have E1 : Hid (pre.length + 1 = (pre ++ [r]).length) := Lib.hid (by simp)
     have E2 : Hid (rs pre ++ rs [r] = rs (pre ++ [r])) := Lib.hid (by rw [rs_append])
     go_wp2_with fail
     refine (rnext_any A c l p un (by omega) _ (h1.on hb)).mono ?_
     rw [HN.out]
     rintro e w2 ⟨rfl, hb2⟩
     unfold NV RV
     have hown2 := own_below5 hown hb2
     have hb2 := below_then hb hb2
     go_wp2_with (at_builtin; refine wpList_app_sl rfl _ _ 48 rfl w.heap.size 41 i0 _ 5 40 Tryz.underlying48 hi hz0 hz1 hz2 rfl (by omega) u9 pre.length (rs pre) rfl ((hown2.alloc _).alloc _) _ 1 1 (rs [r]) rfl (lit_rec2 _ _ r) (rs_one [r]) (by unfold maxLen; omega) (by omega) (by have := hb2.size; simp; omega) ?_; intro v3 w3 hown3 hg3; have hb3 : Below w.heap.size w w3 := (below_lit (below_lit hb2 _) _).grown hg3 (below_lit (below_lit hb2 _) _).size (own_ge hown2); rw [E1.out, E2.out] at hown3)
     exact ⟨⟨q, pre ++ [r], rfl, by omega, by omega, by simp; omega, hown3, by rw [HR.out, HS.out]; simp, hb3⟩, by simp [intOf]; omega⟩
    ·have HS := Lib.hid (recs_stop hlt hn hx)
     have HN := Lib.hid hn
     have hx' : ((x : Int) != 0) = true := by simp; omega
     have HF := Lib.hid (show X = (pre, x) by rw [HR.out, HS.out]; simp)
     clear hn hx HS HR hX
     go_wp2_with fail
     refine (rnext_any A c l p un (by omega) _ (h1.on hb)).mono ?_
     rw [HN.out]
     rintro e w2 ⟨rfl, hb2⟩
     unfold NV RV
     have hown2 := own_below5 hown hb2
     have hb2 := below_then hb hb2
     obtain ⟨A4, c4, rfl, hr4⟩ := SlR.of_own hown2
     go_wp2
     go_ret2
     exact ⟨A4, c4, by rw [HF.out]; rfl, by rw [HF.out]; exact hr4.on (below_new _ _), below_lit hb2 _⟩
   ·obtain rfl : p = un := by omega
    have hfin : X = (pre, 0) := by rw [HR.out, recs_end (by omega)]; simp
    obtain ⟨A4, c4, rfl, hr4⟩ := SlR.of_own hown
    clear HR
    have HF := Lib.hid hfin
    clear hfin
    go_wp2
    go_ret2
    exact ⟨A4, c4, by rw [HF.out]; rfl, by rw [HF.out]; exact hr4, hb⟩
 ·have hm : mayB a u l.length = false := by simpa using hm
  have hR : allR l a u = ([], 1) := by unfold allR; rw [hm]; rfl
  rw [hR]
  go_enter Tryz.func19, Tryz.ntmps19
  go_wp2_with fail
  refine (may_any5 _ _ _ _ _ _ (by omega)).mono ?_
  rintro e w' ⟨rfl, rfl⟩
  rw [hm]
  go_wp2
  go_ret2
  exact ⟨none, 0, rfl, SlR.nil _, Below.refl _ _⟩
end Go.Proofs.YtckcojkpghiclaaGreatDoor
/-
 The records from one place to another one, handed on one by one: the function that makes the iterator, and what it hands on to whatever loop ranges over it.
-/
namespace Go.Proofs.YtckcojkpghiclaaGreatDoor
set_option maxRecDepth 100000
open Go.RowKit Go.Shelf
attribute [local go_sem] Oper.semAt_some
end Go.Proofs.YtckcojkpghiclaaGreatDoor
/-
 All records from one place to another one: the contract of the function that ranges over what is handed on.
-/
namespace Go.Proofs.YtckcojkpghiclaaGreatDoor
set_option maxRecDepth 100000
open Go.RowKit Go.Shelf
attribute [local go_sem] Oper.semAt_some
end Go.Proofs.YtckcojkpghiclaaGreatDoor
/-
 Numbers of kinds, their bits, and back: on integers alone.
-/
namespace Go.Proofs.YtckcojkpghiclaaGreatDoor
set_option maxRecDepth 100000
theorem seven_cnt {k : Int} (h : cnt k = true) : k = 0 ∨ k = 1 ∨ k = 2 ∨ k = 3 ∨ k = 4 ∨ k = 5 ∨ k = 6 := by
 simp [cnt] at h
 exact seven h
theorem ofI_bound (k : Int) {r : Int} (h0 : 0 ≤ r) (h1 : r < 18446744073709551616) : -9223372036854775808 ≤ ofI k r ∧ ofI k r ≤ 9223372036854775807 := by
 unfold ofI unzigI S64 S32
 repeat' split
 all_goals omega
theorem fits_of {k r : Int} (h0 : 0 ≤ r) (h1 : r < 18446744073709551616) (h : cnt k = true) : fitsB k (ofI k r) = true := by
 rcases seven_cnt h with rfl | rfl | rfl | rfl | rfl | rfl | rfl
 ·rfl
 ·rfl
 ·simp [fitsB, ofI]; omega
 ·simp [fitsB, ofI]; omega
 ·simp [fitsB, ofI]; omega
 ·rfl
 ·simp [fitsB, ofI, S32]; split <;> omega
end Go.Proofs.YtckcojkpghiclaaGreatDoor
/-
 Messages as bytes, by plain functions: what a value, a field and a message are as bytes, and how long that is.
-/
namespace Go.Proofs.YtckcojkpghiclaaGreatDoor.T12
set_option maxRecDepth 100000
open Go.Proofs.YtckcojkpghiclaaGreatDoor.T9 Go.Proofs.YtckcojkpghiclaaGreatDoor.T4
end Go.Proofs.YtckcojkpghiclaaGreatDoor.T12
/-
 What is normal has no longer texts; of a normal message each slot alone is normal, and its bytes are some.
-/
namespace Go.Proofs.YtckcojkpghiclaaGreatDoor.T12
set_option maxRecDepth 100000
open Go.Proofs.YtckcojkpghiclaaGreatDoor.T9 Go.Proofs.YtckcojkpghiclaaGreatDoor.T4
end Go.Proofs.YtckcojkpghiclaaGreatDoor.T12
/-
 How many bytes all texts have: the law's own texts.
-/
namespace Go.Proofs.YtckcojkpghiclaaGreatDoor.T12
set_option maxRecDepth 100000
open Go.RowKit
open Go.Proofs.YtckcojkpghiclaaGreatDoor.T9
theorem step_app_sl {P : Program} {w : World} {ops : Array Oper} {o : Oper} {a : Act} {K : Act → World → Prop} {Q : Exit → Act → World → Prop} {E : Prop}
  (hg : o.guard = none) (s x : Operand) (t : TypeId) (hop : o.op = .call { callee := .builtin .append, args := #[s, x], argTypes := #[t, t] })
  (base : Nat) (e : TypeId) (i : TypeInfo) (z : Value) (size bytes : Nat) (ht : P.underlying t = some (.slice e)) (hi : P.info? e = some i) (hz : i.zero = some z)
  (hsize : i.size = size) (hby : i.bytes = bytes) (hzs : z.cells.size = size) (hsz : 0 < size)
  (v : Value) (n : Nat) (xs : List Value) (hs : a.eval s = v) (hown : w.ownsRow base e size v n xs)
  (A : Option Addr) (m c : Nat) (news : List Value) (hx : a.eval x = .slice A m c) (hr : Sl w A m c size news) (h1 : ∀ u ∈ news, u.oneCell' = true)
  (h63 : n + m ≤ maxLen) (hbytes : (n + m) * bytes ≤ 140737488355328) (hbase : base ≤ w.heap.size)
  (h : ∀ v' w', w'.ownsRow base e size v' (n + m) (xs ++ news) → w.grownBy w' v.ownBlock → K (a.put o.dst v') w') :
  if Region.wanted o (yielded ops a.tmps) = true then Oper.wp P o a w K Q else E := by
 have key : ∃ v' w', (Builtin.append_ #[t, t] o.type #[v, .slice A m c]).run P w = .ok v' w' ∧ w'.ownsRow base e size v' (n + m) (xs ++ news) ∧ w.grownBy w' v.ownBlock := by
  cases A with
  | none =>
   obtain ⟨rfl, rfl, rfl⟩ := hr.none_len
   exact ⟨v, w, run_append_owned_none (P := P) w base t o.type e i size ht hi v n xs hown, by simpa using hown, World.grownBy.refl w _⟩
  | some ad =>
   obtain ⟨v', w', hrun, h2, h3, _⟩ := run_append_own (P := P) w base t o.type e i z size bytes ht hi hz hsize hby hzs hsz v n xs hown ad m c news hr.len (hr.cell ad rfl) h1 h63 hbytes hbase
   exact ⟨v', w', hrun, h2, h3⟩
 obtain ⟨v', w', hrun, h2, h3⟩ := key
 have hw : Region.wanted o (yielded ops a.tmps) = true := by simp [Region.wanted, hg]
 rw [if_pos hw]
 have hex : (execOp a.eval o).run P w = .ok (.value v') w' := by simp [execOp, hop, resolve, invoke, builtin, hs, hx, hrun, Result.andThen]
 unfold Oper.wp
 rw [hex]
 exact h v' w' h2 h3
end Go.Proofs.YtckcojkpghiclaaGreatDoor.T12
/-
 A record's bytes lie where nothing lay before: the contract of the function that puts them, told of that; bytes, and lists of bytes of the call's own.
-/
namespace Go.Proofs.YtckcojkpghiclaaGreatDoor.T12
set_option maxRecDepth 100000
open Go.RowKit
open Go.Proofs.YtckcojkpghiclaaGreatDoor.T9
theorem of_own_ge {w : World} {base : Nat} {e : TypeId} {v : Value} {l : List UInt8} (h : w.ownsRow base e 1 v l.length (bs l)) : ∃ A c, v = .slice A l.length c ∧ SlB w A c l ∧ ∀ a, A = some a → base ≤ a.block := by
 obtain ⟨A, c, rfl, hs⟩ := SlB.of_own h
 refine ⟨A, c, rfl, hs, fun a ha => ?_⟩
 subst ha
 exact (own_blk h a.block rfl).1
set_option maxRecDepth 1000000 in
set_option maxHeartbeats 4000000 in
theorem rcputB_any (no wire : Int) (num : Nat) (f u : Int) (A : Option Addr) (c : Nat) (run : List UInt8) (hn1 : -9223372036854775808 ≤ no) (hn2 : no ≤ 9223372036854775807) (hw1 : -9223372036854775808 ≤ wire) (hw2 : wire ≤ 9223372036854775807)
  (hnum : num < 18446744073709551616) (hl : run.length ≤ 140737488351232) (w : World) (h1 : SlB w A c run) (T : Wires w) :
  Calls Tryz.prog 17 #[ZV no wire num f u, .slice A run.length c] w fun e w' => ∃ A' c', e = .returned (.tuple #[.slice A' (recL no wire num run).length c', .bool (putB no wire)]) ∧ SlB w' A' c' (recL no wire num run) ∧ (∀ a, A' = some a → 0 < (recL no wire num run).length → w.heap.size ≤ a.block) ∧ Below w.heap.size w w' := by
 obtain ⟨i0, hi, hz0, hz1, hz2⟩ := info_parts info_u8
 unfold ZV
 have h5 := putL_le5 (no := no) (wire := wire)
 by_cases hB : putB no wire = true
 ·rw [recL_yes hB, hB]
  have hk := putB_iff.1 hB
  have hv10 := vput_len10 hnum
  have hr10 := vput_len10 (n := run.length) (by omega)
  have HB := Lib.hid hB
  clear hB
  generalize hP : putL no wire = P at *
  have HP := Lib.hid hP
  clear hP
  rcases hk with ⟨_, rfl | rfl | rfl | rfl⟩
  ·-- a number
   have hR : restL 0 num run = vput num := by unfold restL; simp
   rw [hR]
   generalize hV : vput num = V at *
   have HV := Lib.hid hV
   clear hV hR
   have E1 : Hid (P.length + V.length = (P ++ V).length) := Lib.hid (by rw [List.length_append])
   have E2 : Hid (bs P ++ bs V = bs (P ++ V)) := Lib.hid (by rw [bs_append])
   generalize P ++ V = X at *
   go_enter Tryz.func17, Tryz.ntmps17
   go_wp2_with fail
   refine (tput_own no 0 hn1 hn2 hw1 hw2 _ (T.on (below_new _ _))).mono ?_
   rw [HP.out, HB.out]
   rintro e w1 ⟨v1, rfl, hown1, hb1⟩
   have hg1 := hb1.block w.heap.size (by simp)
   rw [heap_alloc_new] at hg1
   obtain ⟨q0, q1, q2, _, _⟩ := heap_cells hg1
   have hb1 := below_then (below_new w _) hb1
   go_wp2_with fail
   refine (put_reads num hnum _).mono ?_
   rw [HV.out]
   rintro e w2 ⟨A2, c2, rfl, hr2, hb2⟩
   have hown2 := own_mono5 (own_below5 hown1 hb2) (show w.heap.size ≤ _ by simp)
   have hb2 := below_then hb1 hb2
   go_wp2_with (at_builtin; refine wpList_app_sl rfl _ _ 26 rfl w.heap.size 5 i0 (.int .u8 0) 1 1 Tryz.underlying26 hi hz0 hz1 hz2 rfl (by omega) v1 P.length (bs P) rfl hown2 A2 V.length c2 (bs V) rfl hr2 (bs_one V) (by unfold maxLen; omega) (by omega) hb2.size ?_; intro v3 w3 hown3 hg3; have hb3 : Below w.heap.size w w3 := hb2.grown hg3 hb2.size (own_ge hown2); rw [E1.out, E2.out] at hown3; obtain ⟨A4, c4, rfl, hr4, hge4⟩ := of_own_ge hown3)
   go_ret2
   exact ⟨A4, c4, rfl, hr4, (fun a h _ => hge4 a h), hb3⟩
  ·-- eight bytes
   have hR : restL 1 num run = fixb num 8 := by unfold restL; simp
   rw [hR]
   have hVl : (fixb num 8).length = 8 := fixb_length _ _
   generalize hV : fixb num 8 = V at *
   have HV := Lib.hid hV
   clear hV hR
   have E1 : Hid (P.length + 8 = (P ++ V).length) := Lib.hid (by rw [List.length_append, hVl])
   have E2 : Hid (bs P ++ bs V = bs (P ++ V)) := Lib.hid (by rw [bs_append])
   have hRD : ∀ (w : World) A c, SlB w A c V → Sl w A 8 c 1 (bs V) := fun w A c h => by unfold SlB at h; rw [hVl] at h; exact h
   clear hVl
   generalize P ++ V = X at *
   go_enter Tryz.func17, Tryz.ntmps17
   go_wp2_with fail
   refine (tput_own no 1 hn1 hn2 hw1 hw2 _ (T.on (below_new _ _))).mono ?_
   rw [HP.out, HB.out]
   rintro e w1 ⟨v1, rfl, hown1, hb1⟩
   have hg1 := hb1.block w.heap.size (by simp)
   rw [heap_alloc_new] at hg1
   obtain ⟨q0, q1, q2, _, _⟩ := heap_cells hg1
   have hb1 := below_then (below_new w _) hb1
   go_wp2_with fail
   refine (fixed_any num 8 (by omega) hnum _).mono ?_
   rw [HV.out]
   rintro e w2 ⟨A2, c2, rfl, hr2, hb2⟩
   have hown2 := own_mono5 (own_below5 hown1 hb2) (show w.heap.size ≤ _ by simp)
   have hb2 := below_then hb1 hb2
   have hr2' := hRD _ _ _ hr2
   clear hr2 hRD
   go_wp2_with (at_builtin; refine wpList_app_sl rfl _ _ 26 rfl w.heap.size 5 i0 (.int .u8 0) 1 1 Tryz.underlying26 hi hz0 hz1 hz2 rfl (by omega) v1 P.length (bs P) rfl hown2 A2 8 c2 (bs V) rfl hr2' (bs_one V) (by unfold maxLen; omega) (by omega) hb2.size ?_; intro v3 w3 hown3 hg3; have hb3 : Below w.heap.size w w3 := hb2.grown hg3 hb2.size (own_ge hown2); rw [E1.out, E2.out] at hown3; obtain ⟨A4, c4, rfl, hr4, hge4⟩ := of_own_ge hown3)
   go_ret2
   exact ⟨A4, c4, rfl, hr4, (fun a h _ => hge4 a h), hb3⟩
  ·-- a run
   have hR : restL 2 num run = vput run.length ++ run := by unfold restL; simp
   rw [hR]
   have ew : IntKind.u64.wrap (run.length : Int) = run.length := by simp [IntKind.wrap, IntKind.signed, IntKind.bits]; omega
   generalize hV : vput run.length = V at *
   have HV := Lib.hid hV
   clear hV hR
   have E1 : Hid (P.length + V.length + run.length = (P ++ (V ++ run)).length) := Lib.hid (by simp only [List.length_append]; omega)
   have E2 : Hid (bs P ++ bs V ++ bs run = bs (P ++ (V ++ run))) := Lib.hid (by simp only [bs_append, List.append_assoc])
   generalize P ++ (V ++ run) = X at *
   go_enter Tryz.func17, Tryz.ntmps17
   go_wp2_with fail
   refine (tput_own no 2 hn1 hn2 hw1 hw2 _ (T.on (below_new _ _))).mono ?_
   rw [HP.out, HB.out]
   rintro e w1 ⟨v1, rfl, hown1, hb1⟩
   have hg1 := hb1.block w.heap.size (by simp)
   rw [heap_alloc_new] at hg1
   obtain ⟨q0, q1, q2, _, _⟩ := heap_cells hg1
   have hb1 := below_then (below_new w _) hb1
   go_wp2_with fail
   refine (put_reads run.length (by omega) _).mono ?_
   rw [HV.out]
   rintro e w2 ⟨A2, c2, rfl, hr2, hb2⟩
   have hown2 := own_mono5 (own_below5 hown1 hb2) (show w.heap.size ≤ _ by simp)
   have hb2 := below_then hb1 hb2
   have h1' := h1
   clear h1
   go_wp2_with (first
    | (at_builtin; refine wpList_app_sl rfl _ _ 26 rfl w.heap.size 5 i0 (.int .u8 0) 1 1 Tryz.underlying26 hi hz0 hz1 hz2 rfl (by omega) v1 P.length (bs P) rfl hown2 A2 V.length c2 (bs V) rfl hr2 (bs_one V) (by unfold maxLen; omega) (by omega) hb2.size ?_; intro v3 w3 hown3 hg3; have hb3 : Below w.heap.size w w3 := hb2.grown hg3 hb2.size (own_ge hown2); have h3 := h1'.on hb3; clear hr2)
    | (at_builtin; refine wpList_app_sl rfl _ _ 26 rfl w.heap.size 5 i0 (.int .u8 0) 1 1 Tryz.underlying26 hi hz0 hz1 hz2 rfl (by omega) v3 (P.length + V.length) (bs P ++ bs V) rfl hown3 A run.length c (bs run) rfl h3 (bs_one run) (by unfold maxLen; omega) (by omega) hb3.size ?_; intro v4 w4 hown4 hg4; have hb4 : Below w.heap.size w w4 := hb3.grown hg4 hb3.size (own_ge hown3); rw [E1.out, E2.out] at hown4; obtain ⟨A4, c4, rfl, hr4, hge4⟩ := of_own_ge hown4))
   go_ret2
   exact ⟨A4, c4, rfl, hr4, (fun a h _ => hge4 a h), hb4⟩
  ·-- four bytes
   have hR : restL 5 num run = fixb num 4 := by unfold restL; simp
   rw [hR]
   have hVl : (fixb num 4).length = 4 := fixb_length _ _
   generalize hV : fixb num 4 = V at *
   have HV := Lib.hid hV
   clear hV hR
   have E1 : Hid (P.length + 4 = (P ++ V).length) := Lib.hid (by rw [List.length_append, hVl])
   have E2 : Hid (bs P ++ bs V = bs (P ++ V)) := Lib.hid (by rw [bs_append])
   have hRD : ∀ (w : World) A c, SlB w A c V → Sl w A 4 c 1 (bs V) := fun w A c h => by unfold SlB at h; rw [hVl] at h; exact h
   clear hVl
   generalize P ++ V = X at *
   go_enter Tryz.func17, Tryz.ntmps17
   go_wp2_with fail
   refine (tput_own no 5 hn1 hn2 hw1 hw2 _ (T.on (below_new _ _))).mono ?_
   rw [HP.out, HB.out]
   rintro e w1 ⟨v1, rfl, hown1, hb1⟩
   have hg1 := hb1.block w.heap.size (by simp)
   rw [heap_alloc_new] at hg1
   obtain ⟨q0, q1, q2, _, _⟩ := heap_cells hg1
   have hb1 := below_then (below_new w _) hb1
   go_wp2_with fail
   refine (fixed_any num 4 (by omega) hnum _).mono ?_
   rw [HV.out]
   rintro e w2 ⟨A2, c2, rfl, hr2, hb2⟩
   have hown2 := own_mono5 (own_below5 hown1 hb2) (show w.heap.size ≤ _ by simp)
   have hb2 := below_then hb1 hb2
   have hr2' := hRD _ _ _ hr2
   clear hr2 hRD
   go_wp2_with (at_builtin; refine wpList_app_sl rfl _ _ 26 rfl w.heap.size 5 i0 (.int .u8 0) 1 1 Tryz.underlying26 hi hz0 hz1 hz2 rfl (by omega) v1 P.length (bs P) rfl hown2 A2 4 c2 (bs V) rfl hr2' (bs_one V) (by unfold maxLen; omega) (by omega) hb2.size ?_; intro v3 w3 hown3 hg3; have hb3 : Below w.heap.size w w3 := hb2.grown hg3 hb2.size (own_ge hown2); rw [E1.out, E2.out] at hown3; obtain ⟨A4, c4, rfl, hr4, hge4⟩ := of_own_ge hown3)
   go_ret2
   exact ⟨A4, c4, rfl, hr4, (fun a h _ => hge4 a h), hb3⟩
 ·have hB : putB no wire = false := by simpa using hB
  rw [recL_no hB, hB]
  have HB := Lib.hid hB
  have hP := putL_no hB
  clear hB
  go_enter Tryz.func17, Tryz.ntmps17
  go_wp2_with fail
  refine (tput_own no wire hn1 hn2 hw1 hw2 _ (T.on (below_new _ _))).mono ?_
  rw [HB.out, hP]
  rintro e w1 ⟨v1, rfl, hown1, hb1⟩
  go_wp2
  go_ret2
  exact ⟨none, 0, rfl, SlB.nil _, (fun a h => by cases h), below_then (below_new _ _) hb1⟩
end Go.Proofs.YtckcojkpghiclaaGreatDoor.T12
