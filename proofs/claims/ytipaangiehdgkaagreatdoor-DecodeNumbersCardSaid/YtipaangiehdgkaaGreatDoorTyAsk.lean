/-
  What is asked of values: the contracts of isMap, isMany, isUtf, and of the closures that asks makes.
-/
import Derived.Test.YtipaangiehdgkaaGreatDoorTabFind
import Derived.Test.YtipaangiehdgkaaGreatDoorVarMay
import Derived.Test.YtipaangiehdgkaaGreatDoorTrSet
import Derived.Lib.ConvBytes
import Derived.Deep.QuietTactic
namespace Go.Proofs.YtipaangiehdgkaaGreatDoor.T9
set_option maxRecDepth 100000
open Go.Proofs.YtipaangiehdgkaaGreatDoor.T4
open Go.RowKit Go.Maps

theorem isMap_any (f : Df) (w : World) :
    Calls Tryz.prog 91 #[.agg #[.int .i64 f.no, .string (txt f.name), .int .i64 f.kind, .int .i64 f.ref, .bool f.rep, .int .i64 f.key, .int .i64 f.one]] w fun e w' => e = .returned (.bool (f.key != -1)) ∧ Below w.heap.size w w' := by
  go_enter Tryz.func91, Tryz.ntmps91
  go_wp2
  go_ret
  exact ⟨rfl, below_new _ _⟩
set_option maxRecDepth 1000000 in
set_option maxHeartbeats 2000000 in
theorem isMany_any (f : Df) (k v : Nat) (w : World) :
    Calls Tryz.prog 138 #[.agg #[.int .i64 f.no, .string (txt f.name), .int .i64 f.kind, .int .i64 f.ref, .bool f.rep, .int .i64 f.key, .int .i64 f.one], .int .i64 k, .int .i64 v] w fun e w' => e = .returned (.bool (manyB f k v)) ∧ Below w.heap.size w w' := by
  have LBD := below_new w (dC f)
  have X1 := heap_alloc_new w (dC f)
  have HB : Hid (manyB f k v = if f.key = -1 then (k == 0) && (f.rep || v == 1) else k == v) := Lib.hid rfl
  have H1 := isMap_any f (w.alloc (dC f))
  obtain ⟨d, hd⟩ : ∃ d, (f.key != -1) = d := ⟨_, rfl⟩
  rw [hd] at H1
  cases d with
  | true =>
    rw [if_neg (by simpa using hd)] at HB
    clear hd
    have HE : Hid ((k == v) = ((k : Int) == (v : Int))) := Lib.hid (by rw [Bool.eq_iff_iff]; simp; omega)
    go_enter Tryz.func138, Tryz.ntmps138
    go_wp2_with (go_at_call 91; refine H1.mono ?_; rintro e w1 ⟨rfl, hb1⟩)
    go_ret
    exact ⟨by rw [HB.out, HE.out]; rfl, below_then LBD hb1⟩
  | false =>
    rw [if_pos (by simpa using hd)] at HB
    clear hd
    have HE : Hid ((k == 0) = ((k : Int) == 0)) := Lib.hid (by rw [Bool.eq_iff_iff]; simp)
    have HV : Hid ((v == 1) = ((v : Int) == 1)) := Lib.hid (by rw [Bool.eq_iff_iff]; simp; omega)
    rw [HE.out, HV.out] at HB
    obtain ⟨d1, hd1⟩ : ∃ d, ((k : Int) == 0) = d := ⟨_, rfl⟩
    obtain ⟨d2, hd2⟩ : ∃ d, f.rep = d := ⟨_, rfl⟩
    obtain ⟨d3, hd3⟩ : ∃ d, ((v : Int) == 1) = d := ⟨_, rfl⟩
    rw [hd1, hd2, hd3] at HB
    have HX : ∀ w1, Below (w.alloc (dC f)).heap.size (w.alloc (dC f)) w1 → w1.cell? ⟨w.heap.size, 4, none⟩ = some (.bool d2) := fun w1 hb1 => by
      have := heap_cell (box_on X1 hb1) 4
      rw [← hd2]
      simpa using this
    have HX := Lib.hid HX
    clear HE HV hd2
    go_enter Tryz.func138, Tryz.ntmps138
    cases d1 <;> cases d2 <;> cases d3
    all_goals
      go_wp2_with (go_at_call 91; refine H1.mono ?_; rintro e w1 ⟨rfl, hb1⟩; have d4 := HX.out _ hb1)
      go_ret
      exact ⟨by rw [HB.out]; rfl, below_then LBD hb1⟩
theorem below_bytes (w : World) (e : TypeId) (s : ByteArray) : Below w.heap.size w (Lib.bytesWorld w e s) :=
  ⟨rfl, rfl, rfl, by rw [Lib.bytesWorld_size]; omega, fun k hk => Lib.bytesWorld_at_old w e s k hk⟩
theorem bytes_sl (w : World) (e : TypeId) (l : List UInt8) (hl : l.length ≤ maxLen) : SlB (Lib.bytesWorld w e (txt l)) (some ⟨w.heap.size, 0, none⟩) (grownCap w l.length 0 e) l := by
  refine ⟨by simp [bs], grownCap_ge w _ 0 e, grownCap_le_maxLen w _ 0 e hl, by simp, fun ad ha _ => ?_, fun ad ha k u hu => ?_⟩
  · obtain rfl := Option.some.inj ha
    rw [Lib.bytesWorld_size]
    exact Nat.lt_succ_self _
  · obtain rfl := Option.some.inj ha
    rw [Addr.add_lit, Nat.zero_add]
    have hk : k < l.length := by
      have := (List.getElem?_eq_some_iff.1 hu).1
      simpa [bs] using this
    rw [Lib.bytesWorld_cell w e (txt l) k (by simpa [txt, ByteArray.size] using hk), txt_list]
    rw [← hu]
    simp [bs, hk]
    rfl
set_option maxRecDepth 1000000 in
set_option maxHeartbeats 2000000 in
theorem isUtf_any (l : List UInt8) (hl : l.length ≤ 140737488351232) (w : World) :
    Calls Tryz.prog 103 #[.string (tx l)] w fun e w' => e = .returned (.bool (utfB l)) ∧ Below w.heap.size w w' := by
  show Calls Tryz.prog 103 #[.string (txt l)] w _
  have hcv := Lib.run_convert_string_bytes (P := Tryz.prog) w 9 22 5 (txt l) Tryz.underlying9 Tryz.underlying22 Tryz.underlying5
  rw [txt_size] at hcv
  have hsl := bytes_sl w 5 l (by unfold maxLen; omega)
  have HF := Lib.hid (fine_any _ _ l hl 0 l.length _ hsl)
  have hbb := below_bytes w 5 (txt l)
  have hsz : ((txt l).size : Int) = l.length := by rw [txt_size]
  have HB : Hid (utfB l = fineB l 0 l.length) := Lib.hid rfl
  clear hsl
  go_enter Tryz.func103, Tryz.ntmps103
  go_wp2_with fail
  refine HF.out.mono ?_
  rintro e w1 ⟨rfl, hb1⟩
  go_wp2
  go_ret
  exact ⟨by rw [HB.out]; rfl, below_then hbb hb1⟩

/-! ### The closures -/
theorem emp_len {α : Type} (l : List α) : l.isEmpty = ((l.length : Int) == 0) := by
  cases l with
  | nil => rfl
  | cons x l => rw [Bool.eq_iff_iff]; simp; omega
theorem emp_str (l : List UInt8) : l.isEmpty = (tx l).toList.isEmpty := by
  rw [show tx l = txt l from rfl, Lib.toList_data, txt_list]
set_option maxRecDepth 1000000 in
set_option maxHeartbeats 2000000 in
theorem ask1_any (G : Int → Mg → Bool) (r : Int) (v : Vl') (A : Option Addr) (c : Nat) (w : World) (hl : v.s.length ≤ 140737488351232) :
    Calls Tryz.prog 102 #[.agg #[.int .i64 v.n, .string (tx v.s), .slice A v.M.length c]] w fun e w' => e = .returned (.bool (askG G 7 r v)) ∧ Below w.heap.size w w' := by
  have LBD := below_new w (.cells #[.int .i64 v.n, .string (tx v.s), .slice A v.M.length c] 51)
  have X1 := heap_alloc_new w (.cells #[.int .i64 v.n, .string (tx v.s), .slice A v.M.length c] 51)
  have HB : Hid (askG G 7 r v = ((v.n == 0) && (utfB v.s && ((v.M.length : Int) == 0)))) := Lib.hid (by unfold askG; rw [if_pos rfl, emp_len])
  have HU := Lib.hid (isUtf_any v.s hl (w.alloc (.cells #[.int .i64 v.n, .string (tx v.s), .slice A v.M.length c] 51)))
  obtain ⟨d1, hd1⟩ : ∃ d, (v.n == 0) = d := ⟨_, rfl⟩
  obtain ⟨d2, hd2⟩ : ∃ d, utfB v.s = d := ⟨_, rfl⟩
  obtain ⟨d3, hd3⟩ : ∃ d, ((v.M.length : Int) == 0) = d := ⟨_, rfl⟩
  rw [hd1, hd2, hd3] at HB
  rw [hd2] at HU
  clear hd2
  cases d1 with
  | false =>
    go_enter Tryz.func102, Tryz.ntmps102
    go_wp2
    go_ret
    exact ⟨by rw [HB.out]; rfl, LBD⟩
  | true =>
    cases d2 <;> cases d3
    all_goals
      go_enter Tryz.func102, Tryz.ntmps102
      go_wp2_with (go_at_call 103; refine HU.out.mono ?_; rintro e w1 ⟨rfl, hb1⟩; have d4 := (bx3 (box_on X1 hb1)).2.2)
      go_ret
      exact ⟨by rw [HB.out]; rfl, below_then LBD hb1⟩
set_option maxRecDepth 1000000 in
set_option maxHeartbeats 2000000 in
theorem ask2_any (G : Int → Mg → Bool) (r : Int) (v : Vl') (A : Option Addr) (c : Nat) (w : World) :
    Calls Tryz.prog 104 #[.agg #[.int .i64 v.n, .string (tx v.s), .slice A v.M.length c]] w fun e w' => e = .returned (.bool (askG G 8 r v)) ∧ Below w.heap.size w w' := by
  have LBD := below_new w (.cells #[.int .i64 v.n, .string (tx v.s), .slice A v.M.length c] 51)
  have HB : Hid (askG G 8 r v = ((v.n == 0) && ((v.M.length : Int) == 0))) := Lib.hid (by unfold askG; rw [if_neg (by decide), if_pos rfl, emp_len])
  obtain ⟨d1, hd1⟩ : ∃ d, (v.n == 0) = d := ⟨_, rfl⟩
  obtain ⟨d3, hd3⟩ : ∃ d, ((v.M.length : Int) == 0) = d := ⟨_, rfl⟩
  rw [hd1, hd3] at HB
  cases d1 <;> cases d3
  all_goals
    go_enter Tryz.func104, Tryz.ntmps104
    go_wp2
    go_ret
    exact ⟨by rw [HB.out]; rfl, LBD⟩
set_option maxRecDepth 1000000 in
set_option maxHeartbeats 2000000 in
theorem ask4_any (G : Int → Mg → Bool) (k r : Int) (h7 : k ≠ 7) (h8 : k ≠ 8) (h9 : k ≠ 9) (v : Vl') (A : Option Addr) (c P : Nat) (w : World) (hP : w.heap[P]? = some (.cells #[.int .i64 k] 3 (0, 0))) :
    Calls Tryz.prog 106 #[.agg #[.int .i64 v.n, .string (tx v.s), .slice A v.M.length c], .pointer (some ⟨P, 0, none⟩)] w fun e w' => e = .returned (.bool (askG G k r v)) ∧ Below w.heap.size w w' := by
  have LBD := below_new w (.cells #[.int .i64 v.n, .string (tx v.s), .slice A v.M.length c] 51)
  have X1 := heap_alloc_new w (.cells #[.int .i64 v.n, .string (tx v.s), .slice A v.M.length c] 51)
  have X0 := bx1 (box_on hP LBD)
  have HB : Hid (askG G k r v = (fitsB k v.n && ((tx v.s).toList.isEmpty && ((v.M.length : Int) == 0)))) := Lib.hid (by unfold askG; rw [if_neg h7, if_neg h8, if_neg h9, emp_str v.s, emp_len v.M])
  have HU := Lib.hid (fits_any k v.n (w.alloc (.cells #[.int .i64 v.n, .string (tx v.s), .slice A v.M.length c] 51)))
  obtain ⟨d1, hd1⟩ : ∃ d, fitsB k v.n = d := ⟨_, rfl⟩
  obtain ⟨d2, hd2⟩ : ∃ d, (tx v.s).toList.isEmpty = d := ⟨_, rfl⟩
  obtain ⟨d3, hd3⟩ : ∃ d, ((v.M.length : Int) == 0) = d := ⟨_, rfl⟩
  rw [hd1, hd2, hd3] at HB
  rw [hd1] at HU
  clear hd1 h7 h8 h9
  cases d1 <;> cases d2 <;> cases d3
  all_goals
    go_enter Tryz.func106, Tryz.ntmps106
    go_wp2_with (go_at_call 107; refine HU.out.mono ?_; rintro e w1 ⟨rfl, hb1⟩; obtain ⟨-, d5, d6⟩ := bx3 (box_on X1 hb1))
    go_ret
    exact ⟨by rw [HB.out]; rfl, below_then LBD hb1⟩
end Go.Proofs.YtipaangiehdgkaaGreatDoor.T9
