/-
  A message is printed: the contract.
-/
import Derived.Test.YtciiemomfniecaaGreatDoorProMem
import Derived.Deep.Slices
import Derived.Deep.Strs
namespace Go.Proofs.YtciiemomfniecaaGreatDoor
set_option maxRecDepth 100000

open Go.RowKit

theorem MemAt.pr {B B' : Nat} {w w' : World} {g : Nat} {us : List Value} {ms : List (List Fd)} (h : MemAt w B' g us ms) (hp : Pr B w w') : MemAt w' B' g us ms :=
  ⟨(hp.typed g _ _ _ h.heap (by decide)).trans h.heap, h.len, fun k u l hu hl => hp.own (h.row k u l hu hl) (by decide), h.apart⟩
theorem MemAt.clear {w : World} {B g j : Nat} {us : List Value} {ms : List (List Fd)} (h : MemAt w B g us ms) (hj : j < ms.length) : MemAt (w.setCell ⟨g, j, none⟩ (.slice none 0 0)) B g (us.set j (.slice none 0 0)) (ms.set j []) := by
  have hju : j < us.length := by rw [h.len]; exact hj
  have hl : ∀ k u l, us[k]? = some u → ms[k]? = some l → (w.setCell ⟨g, j, none⟩ (.slice none 0 0)).ownsRow B 53 7 u l.length (fdv l) := fun k u l hu hl => own_other (h.row k u l hu hl) (grown_set w g j _) h.heap (by decide)
  refine ⟨?_, by simp [h.len], fun k u l hu hm => ?_, fun i k u v hik hu hv => ?_⟩
  · have := heap_setCell_same h.heap (j := j) (.slice none 0 0)
    simpa using this
  · rw [List.getElem?_set] at hu hm
    by_cases hjk : j = k
    · subst hjk
      rw [if_pos rfl, if_pos hju] at hu
      rw [if_pos rfl, if_pos hj] at hm
      cases hu; cases hm
      exact World.ownsRow_nil _ _ _ _
    · rw [if_neg hjk] at hu hm
      exact hl k u l hu hm
  · rw [List.getElem?_set] at hu hv
    by_cases h1 : j = i
    · subst h1
      rw [if_pos rfl, if_pos hju] at hu
      cases hu; exact .inl rfl
    · rw [if_neg h1] at hu
      by_cases h2 : j = k
      · subst h2
        rw [if_pos rfl, if_pos hju] at hv
        cases hv
        cases hb : u.ownBlock with
        | none => exact .inl rfl
        | some q => right; simp [Value.ownBlock]
      · rw [if_neg h2] at hv
        exact h.apart i k u v hik hu hv
theorem foldl_mem (n : Nat) : ∀ (l : List Fd) (ms : List (List Fd)) (P : Fd → Prop), (∀ d ∈ l, P d) → (∀ (j : Nat) (x : List Fd), ms[j]? = some x → ∀ d ∈ x, P d) → ∀ (j : Nat) (x : List Fd), (l.foldl (memStep n) ms)[j]? = some x → ∀ d ∈ x, P d
  | [], ms, P, _, h2, j, x, hx, d, hd => h2 j x hx d hd
  | e :: l, ms, P, h1, h2, j, x, hx, d, hd => by
    rw [List.foldl_cons] at hx
    refine foldl_mem n l _ P (fun d hd => h1 d (by simp [hd])) (fun j x hx d hd => ?_) j x hx d hd
    unfold memStep at hx
    split at hx
    · rw [List.getElem?_set] at hx
      split at hx
      · rename_i h3
        subst h3
        split at hx
        · injection hx with hx
          subst hx
          rcases List.mem_append.1 hd with h4 | h4
          · rw [List.getD_eq_getElem?_getD] at h4
            cases h5 : ms[oneAt e]? with
            | none => rw [h5] at h4; simp at h4
            | some y => rw [h5] at h4; exact h2 _ y h5 d h4
          · rw [List.mem_singleton.1 h4]; exact h1 e (by simp)
        · cases hx
      · exact h2 j x hx d hd
    · exact h2 j x hx d hd
theorem memsB_mem (n : Nat) (l : List Fd) (P : Fd → Prop) (h : ∀ d ∈ l, P d) (j : Nat) (x : List Fd) (hx : (memsB n l)[j]? = some x) : ∀ d ∈ x, P d :=
  foldl_mem n l _ P h (fun j x hx d hd => by rw [List.getElem?_replicate] at hx; split at hx <;> cases hx; cases hd) j x hx
theorem strrow_at {w : World} {b : Nat} {v : Value} {l : List (List UInt8)} (h : w.ownsRow b 9 1 v l.length (strv l)) {k : Nat} {x : List UInt8} (hk : l[k]? = some x) :
    ∃ g cap, v = .slice (some ⟨g, 0, none⟩) l.length cap ∧ g < w.heap.size ∧ w.cell? ⟨g, k, none⟩ = some (.string (txt x)) := by
  have hlt : k < l.length := (List.getElem?_eq_some_iff.1 hk).1
  rcases h.2 with ⟨_, h0⟩ | ⟨g, cap, cur, rfl, _, hh, _⟩
  · omega
  · have := h.cells (g := g) rfl k (.string (txt x)) (by simp [strv, hk])
    exact ⟨g, cap, rfl, (Array.getElem?_eq_some_iff.1 hh).1, by simpa [Addr.add_lit] using this⟩
structure MsOk (m : Ms) : Prop where
  f : ∀ d ∈ m.F, FdOk d
  r : ∀ n ∈ m.res, -9223372036854775808 ≤ n ∧ n ≤ 9223372036854775807
  lf : m.F.length ≤ 100000
  lo : m.ones.length ≤ 100000
  lr : m.res.length ≤ 100000
def PmRel (B gM : Nat) (L : List UInt8) (ones : List (List UInt8)) (l : List Fd) (w : World) (o i : Value) (wr : World) : Prop :=
  ∃ (k : Nat) (us : List Value) (ms : List (List Fd)) (X : List UInt8), i = .int .i64 k ∧ k ≤ l.length ∧ Out B wr o (L ++ X) ∧ itemsB ones (memsB ones.length l) l = X ++ itemsB ones ms (l.drop k) ∧ MemAt wr 0 gM us ms ∧ ms.length = ones.length ∧
    (∀ (j : Nat) (x : List Fd), ms[j]? = some x → (∀ d ∈ x, FdOk d) ∧ x.length ≤ l.length) ∧ Pr B w wr
theorem PmRel.mk {B gM : Nat} {L : List UInt8} {ones : List (List UInt8)} {l : List Fd} {w wr : World} {o i : Value} (k : Nat) (us : List Value) (ms : List (List Fd)) (X : List UInt8) (h1 : i = .int .i64 k) (h2 : k ≤ l.length) (h3 : Out B wr o (L ++ X))
    (h4 : itemsB ones (memsB ones.length l) l = X ++ itemsB ones ms (l.drop k)) (h5 : MemAt wr 0 gM us ms) (h6 : ms.length = ones.length) (h7 : ∀ (j : Nat) (x : List Fd), ms[j]? = some x → (∀ d ∈ x, FdOk d) ∧ x.length ≤ l.length) (h8 : Pr B w wr) : PmRel B gM L ones l w o i wr :=
  ⟨k, us, ms, X, h1, h2, h3, h4, h5, h6, h7, h8⟩
theorem items_out {ones : List (List UInt8)} {ms : List (List Fd)} {d : Fd} {l : List Fd} (h : inOne ones.length d = false) : itemsB ones ms (d :: l) = fieldB [32, 32] d ++ itemsB ones ms l := by simp [itemsB, h]
theorem items_in {ones : List (List UInt8)} {ms : List (List Fd)} {d : Fd} {l : List Fd} {j : Nat} {x : List UInt8} {y : List Fd} (h : inOne ones.length d = true) (hj : oneAt d = j) (hx : ones[j]? = some x) (hy : ms[j]? = some y) : itemsB ones ms (d :: l) = oneB x y ++ itemsB ones (ms.set j []) l := by
  simp [itemsB, h, hj, hx, hy]
set_option maxHeartbeats 8000000 in
theorem pmsg_any (B : Nat) (v vF vO vR : Value) (L : List UInt8) (m : Ms) (w : World) (LV : LaidB B w) (ho : Out B w v L) (hm : MRead w m vF vO vR) (hB : B ≤ w.heap.size) (hd : MsOk m) (hl : L.length + (messageB m).length ≤ 1000000000) :
    Calls Tryz.prog 58 #[v, MsV m vF vO vR] w (OutPost B (L ++ messageB m) w) := by
  obtain ⟨name, l, ones, res, at_⟩ := m
  obtain ⟨A1, q1, h1, -⟩ := Sl.of_own hm.f
  obtain ⟨A2, q2, h2, -⟩ := Sl.of_own hm.o
  obtain ⟨A3, q3, h3, -⟩ := Sl.of_own hm.r
  simp only at h1 h2 h3
  have HX : Hid (MsV ⟨name, l, ones, res, at_⟩ vF vO vR = .agg #[.string (txt name), .slice A1 l.length q1, .slice A2 ones.length q2, .slice A3 res.length q3, .int .i64 at_]) := Lib.hid (by rw [h1, h2, h3]; rfl)
  obtain ⟨w0, hw0⟩ : ∃ w0, w0 = w.alloc (.cells #[.string (txt name), .slice A1 l.length q1, .slice A2 ones.length q2, .slice A3 res.length q3, .int .i64 at_] 51) := ⟨_, rfl⟩
  have hs0 : w0.heap.size = w.heap.size + 1 := by rw [hw0]; simp
  have HP0 : Hid (Pr B w w0) := Lib.hid (by rw [hw0]; exact (Pr.refl B w).alloc hB _)
  have hbox : w0.heap[w.heap.size]? = some (.cells #[.string (txt name), .slice A1 l.length q1, .slice A2 ones.length q2, .slice A3 res.length q3, .int .i64 at_] 51 (0, 0)) := by rw [hw0]; exact heap_alloc_new w _
  have hm0 := hm.leaf HP0.out.leaf
  have hmem := pmem_any ⟨name, l, ones, res, at_⟩ vF vO vR
  rw [HX.out] at hmem
  have HF : Hid (w0.ownsRow 0 53 7 (.slice A1 l.length q1) l.length (fdv l)) := Lib.hid (by have := hm0.f; rw [h1] at this; exact this)
  have HO : Hid (w0.ownsRow 0 9 1 (.slice A2 ones.length q2) ones.length (strv ones)) := Lib.hid (by have := hm0.o; rw [h2] at this; exact this)
  have HR : Hid (w0.ownsRow 0 2 1 (.slice A3 res.length q3) res.length (intv res)) := Lib.hid (by have := hm0.r; rw [h3] at this; exact this)
  have HMR := Lib.hid hm0
  have HBOX := Lib.hid hbox
  have HLV := Lib.hid (LV.pr HP0.out)
  have HD := Lib.hid hd
  have hlf := hd.lf
  have hlo := hd.lo
  have hlr := hd.lr
  simp only at hlf hlo hlr
  have HMEM := Lib.hid (fun (w : World) (h : MRead w ⟨name, l, ones, res, at_⟩ vF vO vR) => hmem w h hlf hlo)
  have HT : Hid (messageB ⟨name, l, ones, res, at_⟩ = lineB [wMessage, [32], name, [32, 123]] ++ itemsB ones (memsB ones.length l) l ++ (if res = [] then [] else resB res) ++ lineB [[125]]) := Lib.hid rfl
  have hln : L.length + (lineB [wMessage, [32], name, [32, 123]]).length + (itemsB ones (memsB ones.length l) l).length + (if res = [] then [] else resB res).length + (lineB [[125]]).length ≤ 1000000000 := by
    rw [HT.out] at hl
    simp only [List.length_append] at hl
    omega
  have HLN := Lib.hid hln
  have hl1 : L.length + [wMessage, [32], name, [32, 123]].flatten.length ≤ 1000000000 := by
    unfold lineB at hln
    simp only [List.length_append] at hln ⊢
    omega
  have HO0 : Hid (Out B w0 v L) := Lib.hid (by rw [hw0]; exact ho.alloc _)
  have H1 := Lib.hid (line_any B (w.heap.size + 1) 4 v L [wMessage, [32], name, [32, 123]] (w0.alloc (.cells (strv [wMessage, [32], name, [32, 123]]).toArray 9)) rfl (HO0.out.alloc _) (by rw [← hs0]; exact heap_alloc_new _ _) (by simp; omega) hl1 (by simp))
  rw [HX.out]
  clear hm hm0 hmem hd hl hln hl1 h1 h2 h3 hbox LV ho
  go_enter Tryz.func58, Tryz.ntmps58
  have HW0 := Lib.hid hw0
  clear hw0
  go_wp2_with fail
  rw [← HW0.out]
  refine H1.out.mono ?_
  rintro e w1 ⟨v1, rfl, ho1, hpr1⟩
  have hs1 := hpr1.size
  simp at hs1
  have HP1 := Lib.hid (((Pr.refl B w0).alloc (by omega) _).trans hpr1)
  have HO1 := Lib.hid ho1
  have hb1 := (HP1.out.typed w.heap.size _ _ _ HBOX.out (by decide)).trans HBOX.out
  have m0 := heap_cell hb1 0
  have m1 := heap_cell hb1 1
  have m2 := heap_cell hb1 2
  have m3 := heap_cell hb1 3
  have m4 := heap_cell hb1 4
  simp at m0 m1 m2 m3 m4
  clear ho1 hpr1 hb1
  go_wp2_with fail
  refine (HMEM.out w1 (HMR.out.leaf HP1.out.leaf)).mono ?_
  rintro e w2 ⟨g, us, rfl, hgs, hma, hb2⟩
  simp only [memsB_length]
  have hs2 := hb2.size
  have HP2 := Lib.hid (HP1.out.trans (Pr.below hb2 (by omega)))
  have HO2 := Lib.hid (HO1.out.below hb2)
  have HM2 := Lib.hid hma
  have hbx := (HP2.out.typed w.heap.size _ _ _ HBOX.out (by decide)).trans HBOX.out
  have n1 := heap_cell hbx 1
  simp at n1
  clear hma hb2 m0 m1 m2 m3 m4 hbx
  go_wp2
  go_loopw [0, 19] (fun o i wr => PmRel B g (L ++ lineB [wMessage, [32], name, [32, 123]]) ones l w0 o i wr) (fun _ i _ => l.length - (intOf i).toNat)
  case atStart => exact PmRel.mk 0 us _ [] rfl (by omega) (by simpa using HO2.out) (by simp) HM2.out (memsB_length _ _) (fun j x hx => ⟨memsB_mem _ _ FdOk HD.out.f j x hx, by have h := memsB_few ones.length l j; rw [List.getD_eq_getElem?_getD, hx] at h; simpa using h⟩) HP2.out
  case round =>
    obtain ⟨k, us, ms, X, rfl, hk, ho, hit, hma, hml, hmo, hpr⟩ := hrel
    have HO5 := Lib.hid ho
    have HIT := Lib.hid hit
    have HMA := Lib.hid hma
    have HML := Lib.hid hml
    have HMO := Lib.hid hmo
    have HPR := Lib.hid hpr
    have hsz := hpr.size
    have hszl : w.heap.size < wr.heap.size := by omega
    have hbx := (hpr.typed w.heap.size _ _ _ HBOX.out (by decide)).trans HBOX.out
    have m0 := heap_cell hbx 0
    have m1 := heap_cell hbx 1
    have m2 := heap_cell hbx 2
    have m3 := heap_cell hbx 3
    have m4 := heap_cell hbx 4
    simp at m0 m1 m2 m3 m4
    have HBX := Lib.hid hbx
    clear ho hit hma hml hmo hpr hbx
    by_cases h1 : k < l.length
    · obtain ⟨d, hdk⟩ : ∃ d, l[k]? = some d := ⟨_, List.getElem?_eq_getElem h1⟩
      obtain ⟨gf, cap, hv, hg, c0, c1, c2, c3, c4, c5, c6⟩ := fd_at (HPR.out.own HF.out (by decide)) hdk
      injection hv with hA hn hc
      subst hA hc
      have hdr : l.drop k = d :: l.drop (k + 1) := by
        obtain ⟨h, e⟩ := List.getElem?_eq_some_iff.1 hdk
        rw [List.drop_eq_getElem_cons h, e]
      have hdok := HD.out.f d (List.mem_of_getElem? hdk)
      have HDR := Lib.hid hdr
      have hI := inOne_any (txt name) (some ⟨gf, 0, none⟩) A2 A3 l.length ones.length res.length q1 q2 q3 at_ d (wr.alloc (.cells #[.string (txt d.type), .string (txt d.key), .bool d.rep, .int .i64 d.one, .string (txt d.name), .int .i64 d.no, .int .i64 d.at_] 53))
      have HXD : Hid (FdV d = .agg #[.string (txt d.type), .string (txt d.key), .bool d.rep, .int .i64 d.one, .string (txt d.name), .int .i64 d.no, .int .i64 d.at_]) := Lib.hid rfl
      rw [HXD.out] at hI
      have HI := Lib.hid hI
      have HDK := Lib.hid hdok
      clear hdk hn hI hdr hdok
      go_wp2_with fail
      refine HI.out.mono ?_
      have hi6 : ∀ w6, Below (wr.alloc (.cells #[.string (txt d.type), .string (txt d.key), .bool d.rep, .int .i64 d.one, .string (txt d.name), .int .i64 d.no, .int .i64 d.at_] 53)).heap.size (wr.alloc (.cells #[.string (txt d.type), .string (txt d.key), .bool d.rep, .int .i64 d.one, .string (txt d.name), .int .i64 d.no, .int .i64 d.at_] 53)) w6 → Below wr.heap.size wr w6 ∧ w6.heap[wr.heap.size]? = some (.cells #[.string (txt d.type), .string (txt d.key), .bool d.rep, .int .i64 d.one, .string (txt d.name), .int .i64 d.no, .int .i64 d.at_] 53 (0, 0)) := fun w6 hb6 => ⟨(below_new wr _).trans (hb6.mono (by simp)), (hb6.block wr.heap.size (by simp)).trans (heap_alloc_new wr _)⟩
      have HI6 := Lib.hid hi6
      clear hi6
      cases hin : inOne ones.length d
      · have hio := items_out (ms := ms) (l := l.drop (k + 1)) hin
        have hfl : (L ++ lineB [wMessage, [32], name, [32, 123]] ++ X).length + (fieldB [32, 32] d).length ≤ 1000000000 := by
          have h2 := HLN.out
          rw [HIT.out, HDR.out, hio] at h2
          simp only [List.length_append] at h2 ⊢
          omega
        have HIO : Hid (itemsB ones (memsB ones.length l) l = (X ++ fieldB [32, 32] d) ++ itemsB ones ms (l.drop (k + 1))) := Lib.hid (by rw [HIT.out, HDR.out, hio, List.append_assoc])
        have HFL := Lib.hid hfl
        clear hin hio hfl
        rintro e w6 ⟨rfl, hb6⟩
        obtain ⟨hbw, hbf⟩ := HI6.out w6 hb6
        have f0 := heap_cell hbf 0
        have f1 := heap_cell hbf 1
        have f2 := heap_cell hbf 2
        have f3 := heap_cell hbf 3
        have f4 := heap_cell hbf 4
        have f5 := heap_cell hbf 5
        have f6 := heap_cell hbf 6
        simp at f0 f1 f2 f3 f4 f5 f6
        have hs6 := hbw.size
        have HQ6 := Lib.hid (HPR.out.trans (Pr.below hbw (by omega)))
        have H2 := Lib.hid (pfld_any B _ _ [32, 32] d w6 (HLV.out.pr HQ6.out).laid (HO5.out.below hbw) (by omega) HDK.out HFL.out)
        have HBW := Lib.hid hbw
        clear hb6 hbw hbf
        go_wp2_with fail
        refine H2.out.mono ?_
        rintro e w8 ⟨v8, rfl, ho8, hpr8⟩
        go_wp2
        refine ⟨PmRel.mk (k + 1) us ms (X ++ fieldB [32, 32] d) (by go_num) (by omega) (by rw [← List.append_assoc]; exact ho8) HIO.out ((HMA.out.below HBW.out).pr hpr8) HML.out HMO.out (HQ6.out.trans hpr8), by simp [intOf]; omega⟩
      · obtain ⟨j, hj⟩ : ∃ j : Nat, d.one = (j : Int) + 1 := ⟨d.one.toNat - 1, by simp only [inOne, Bool.and_eq_true, decide_eq_true_eq] at hin; omega⟩
        have hoj : oneAt d = j := by unfold oneAt; omega
        have hjn : j < ones.length := by simp only [inOne, Bool.and_eq_true, decide_eq_true_eq] at hin; omega
        have hjm : j < ms.length := by rw [HML.out]; exact hjn
        have hju : j < us.length := by rw [HMA.out.len]; exact hjm
        obtain ⟨u, hu⟩ : ∃ u, us[j]? = some u := ⟨_, List.getElem?_eq_getElem hju⟩
        obtain ⟨lj, hlj⟩ : ∃ lj, ms[j]? = some lj := ⟨_, List.getElem?_eq_getElem hjm⟩
        obtain ⟨x, hx⟩ : ∃ x, ones[j]? = some x := ⟨_, List.getElem?_eq_getElem hjn⟩
        have hio := items_in (ms := ms) (l := l.drop (k + 1)) hin hoj hx hlj
        have hfl : (L ++ lineB [wMessage, [32], name, [32, 123]] ++ X).length + (oneB x lj).length ≤ 1000000000 := by
          have h2 := HLN.out
          rw [HIT.out, HDR.out, hio] at h2
          simp only [List.length_append] at h2 ⊢
          omega
        have HIO : Hid (itemsB ones (memsB ones.length l) l = (X ++ oneB x lj) ++ itemsB ones (ms.set j []) (l.drop (k + 1))) := Lib.hid (by rw [HIT.out, HDR.out, hio, List.append_assoc])
        have HFL := Lib.hid hfl
        have ew : IntKind.i64.wrap ((d.one : Int) - 1) = (j : Int) := by rw [IntKind.wrap_i64]; omega
        have ei1 : (0 : Int) ≤ (j : Int) := by omega
        have ei2 : (j : Int) < (ones.length : Int) := by omega
        have hmo := HMO.out j lj hlj
        have HMJ := Lib.hid hmo
        have HU := Lib.hid hu
        have HLJ := Lib.hid hlj
        have HXX := Lib.hid hx
        have HJM := Lib.hid hjm
        clear hin hio hfl hj hoj hju hu hlj hx hmo hjm
        rintro e w6 ⟨rfl, hb6⟩
        obtain ⟨hbw, hbf⟩ := HI6.out w6 hb6
        have f3 := heap_cell hbf 3
        simp at f3
        have hs6 := hbw.size
        have hq6 := HPR.out.trans (Pr.below hbw (by omega))
        have hbx6 := (hq6.typed w.heap.size _ _ _ HBOX.out (by decide)).trans HBOX.out
        have n2 := heap_cell hbx6 2
        simp at n2
        obtain ⟨go, co, hvo, hgo, cx⟩ := strrow_at (hq6.own HO.out (by decide)) HXX.out
        injection hvo with hA2 _ hc2
        subst hA2 hc2
        have hma6 := HMA.out.below hbw
        have cu := hma6.cell HU.out
        have HQ6 := Lib.hid hq6
        have HM6 := Lib.hid hma6
        have H2 := Lib.hid (pone_any B _ u _ x lj w6.drew ((HLV.out.pr HQ6.out).pr (Pr.refl B w6).drew) (Out.below (HO5.out.below hbw) (Below.refl _ _).drew) (own_mono (hma6.drew.row j u lj HU.out HLJ.out) (Nat.zero_le _)) (by show B ≤ w6.heap.size; omega) HMJ.out.1 HFL.out (by have := HMJ.out.2; omega))
        have hkeep : Hid (∀ w', Pr B w6.drew w' → w'.cell? ⟨w.heap.size, 2, none⟩ = some (.slice (some ⟨go, 0, none⟩) ones.length q2) ∧ w'.cell? ⟨go, j, none⟩ = some (.string (txt x)) ∧ w'.cell? ⟨g, j, none⟩ = some u) := Lib.hid (fun w' h => by
          have q := (HQ6.out.drew).trans h
          refine ⟨?_, ?_, ((HM6.out.drew).pr h).cell HU.out⟩
          · rw [heap_cell ((q.typed w.heap.size _ _ _ HBOX.out (by decide)).trans HBOX.out)]; rfl
          · obtain ⟨go', co', hvo', _, cx'⟩ := strrow_at (q.own HO.out (by decide)) HXX.out
            injection hvo' with hA3 _ _
            injection hA3 with hA3
            injection hA3 with hA3
            subst hA3
            exact cx')
        clear hb6 hbw hbf hq6 hbx6 hma6 c0 c1 c2 c3 c4 c5 c6
        go_wp2_with fail
        go_region_held3 (fun w' => w'.cell? ⟨w.heap.size, 2, none⟩ = some (.slice (some ⟨go, 0, none⟩) ones.length q2) ∧ w'.cell? ⟨go, j, none⟩ = some (.string (txt x)) ∧ w'.cell? ⟨g, j, none⟩ = some u)
          (first | exact hkeep.out _ (Pr.refl _ _) | exact hkeep.out _ hpr8 | go_keep)
          ((first
            | (go_at_call 110; refine H2.out.mono ?_; rintro e w8 ⟨v8, rfl, ho8, hpr8⟩)))
        all_goals
          have hm8 := HM6.out.drew.pr hpr8
          have cu8 := hm8.cell HU.out
          have fu8 := heap_free hm8.heap j
          have HM8 := Lib.hid hm8
          clear hm8 cu n2 cx
          go_wp2
          refine ⟨PmRel.mk (k + 1) (us.set j (.slice none 0 0)) (ms.set j []) (X ++ oneB x lj) (by go_num) (by omega) ?_ HIO.out (HM8.out.clear HJM.out) (by simp [HML.out]) ?_ ((HQ6.out.drew.trans hpr8).setCell (by omega) (by simp; omega) _), by simp [intOf]; omega⟩
          · rw [← List.append_assoc]
            exact own_other ho8 (grown_set w8 g j _) HM8.out.heap (by decide)
          · intro i y hy
            rw [List.getElem?_set] at hy
            split at hy
            · split at hy
              · cases hy; exact ⟨fun d hd => (by cases hd), by simp⟩
              · cases hy
            · exact HMO.out i y hy
    · obtain rfl : k = l.length := by omega
      have hix : itemsB ones (memsB ones.length l) l = X := by rw [HIT.out, List.drop_of_length_le (Nat.le_refl _)]; simp [itemsB]
      have hln2 := HLN.out
      rw [hix] at hln2
      have HIX := Lib.hid hix
      have HLN2 := Lib.hid hln2
      have hle1 : (L ++ lineB [wMessage, [32], name, [32, 123]] ++ X).length + (if res = [] then [] else resB res).length + (lineB [[125]]).length ≤ 1000000000 := by
        simp only [List.length_append] at hln2 ⊢
        omega
      clear hix hln2 m0 m1 m2 m4
      by_cases hr0 : res = []
      · subst hr0
        have hle : (L ++ lineB [wMessage, [32], name, [32, 123]] ++ X).length + ([[125]] : List (List UInt8)).flatten.length ≤ 1000000000 := by
          unfold lineB at hle1 ⊢
          simp only [List.length_append] at hle1 ⊢
          omega
        have H2 := Lib.hid (line_any B wr.heap.size 1 _ _ [[125]] (wr.alloc (.cells (strv [[125]]).toArray 9)) rfl (HO5.out.alloc _) (heap_alloc_new _ _) (by simp; omega) hle (by simp))
        clear hle hle1
        go_wp2_with fail
        refine H2.out.mono ?_
        rintro e w8 ⟨v8, rfl, ho8, hpr8⟩
        go_wp2
        go_ret
        refine ⟨v8, rfl, ?_, HP0.out.trans ((HPR.out.alloc (by omega) _).trans hpr8)⟩
        rw [HT.out, HIX.out]
        simp only [if_pos, List.append_nil, ← List.append_assoc]
        exact ho8
      · have hrp : 0 < res.length := List.length_pos_iff.2 hr0
        have HIF : Hid ((if res = [] then [] else resB res) = resB res) := Lib.hid (if_neg hr0)
        rw [HIF.out] at hle1
        have hd1 : decide ((0 : Int) < (res.length : Int)) = true := by rw [decide_eq_true_eq]; omega
        have hd2 : decide (0 < res.length) = true := by rw [decide_eq_true_eq]; omega
        have H2 := Lib.hid (pres_any B _ (.slice A3 res.length q3) _ res wr (HLV.out.pr HPR.out) HO5.out (HPR.out.own HR.out (by decide)) (by omega) HD.out.r (by omega) (by omega))
        have hle : (L ++ lineB [wMessage, [32], name, [32, 123]] ++ X ++ resB res).length + ([[125]] : List (List UInt8)).flatten.length ≤ 1000000000 := by
          unfold lineB at hle1 ⊢
          simp only [List.length_append] at hle1 ⊢
          omega
        have HLE := Lib.hid hle
        clear hle hle1 hr0
        go_wp2_with fail
        refine H2.out.mono ?_
        rintro e w7 ⟨v7, rfl, ho7, hpr7⟩
        have hs7 := hpr7.size
        have H3 := Lib.hid (line_any B w7.heap.size 1 _ _ [[125]] (w7.alloc (.cells (strv [[125]]).toArray 9)) rfl (ho7.alloc _) (heap_alloc_new _ _) (by simp; omega) HLE.out (by simp))
        go_wp2_with fail
        refine H3.out.mono ?_
        rintro e w8 ⟨v8, rfl, ho8, hpr8⟩
        go_wp2
        go_ret
        refine ⟨v8, rfl, ?_, HP0.out.trans (((HPR.out.trans hpr7).alloc (by omega) _).trans hpr8)⟩
        rw [HT.out, HIX.out, HIF.out]
        simp only [← List.append_assoc]
        exact ho8
end Go.Proofs.YtciiemomfniecaaGreatDoor
/-
  A file is printed: the contract.
-/
namespace Go.Proofs.YtciiemomfniecaaGreatDoor
set_option maxRecDepth 100000

open Go.RowKit

theorem ms_at {w : World} : ∀ {l : List Ms} {xs : List Value}, MsAre w l xs → ∀ {k : Nat} {m : Ms}, l[k]? = some m → ∃ vF vO vR, MRead w m vF vO vR ∧ ∀ j, j < 5 → xs[k * 5 + j]? = (MC m vF vO vR)[j]?
  | [], _, _, k, m, hk => by simp at hk
  | x :: l, xs, ⟨vF, vO, vR, ys, h1, h2, h3⟩, 0, m, hk => by
    obtain rfl : x = m := by simpa using hk
    refine ⟨vF, vO, vR, h2, fun j hj => ?_⟩
    rw [h1, Nat.zero_mul, Nat.zero_add, List.getElem?_append_left (by simp [MC]; omega)]
  | x :: l, xs, ⟨vF, vO, vR, ys, h1, h2, h3⟩, k + 1, m, hk => by
    obtain ⟨a, b, c, h4, h5⟩ := ms_at h3 (k := k) (m := m) (by simpa using hk)
    refine ⟨a, b, c, h4, fun j hj => ?_⟩
    rw [h1, List.getElem?_append_right (by simp [MC]; omega), ← h5 j hj]
    congr 1
    simp [MC]; omega
theorem en_at {w : World} : ∀ {l : List En} {xs : List Value}, EnAre w l xs → ∀ {k : Nat} {m : En}, l[k]? = some m → ∃ vV, ERead w m vV ∧ ∀ j, j < 3 → xs[k * 3 + j]? = (EC m vV)[j]?
  | [], _, _, k, m, hk => by simp at hk
  | x :: l, xs, ⟨vV, ys, h1, h2, h3⟩, 0, m, hk => by
    obtain rfl : x = m := by simpa using hk
    refine ⟨vV, h2, fun j hj => ?_⟩
    rw [h1, Nat.zero_mul, Nat.zero_add, List.getElem?_append_left (by simp [EC]; omega)]
  | x :: l, xs, ⟨vV, ys, h1, h2, h3⟩, k + 1, m, hk => by
    obtain ⟨a, h4, h5⟩ := en_at h3 (k := k) (m := m) (by simpa using hk)
    refine ⟨a, h4, fun j hj => ?_⟩
    rw [h1, List.getElem?_append_right (by simp [EC]; omega), ← h5 j hj]
    congr 1
    simp [EC]; omega
/-- Message k of a row, as it lies there. -/
theorem msrow_at {w : World} {b : Nat} {v : Value} {l : List Ms} {xs : List Value} (h : w.ownsRow b 51 5 v l.length xs) (ha : MsAre w l xs) {k : Nat} {m : Ms} (hk : l[k]? = some m) :
    ∃ g cap vF vO vR, v = .slice (some ⟨g, 0, none⟩) l.length cap ∧ g < w.heap.size ∧ MRead w m vF vO vR ∧ w.cell? ⟨g, k * 5, none⟩ = some (.string (txt m.name)) ∧ w.cell? ⟨g, k * 5 + 1, none⟩ = some vF ∧ w.cell? ⟨g, k * 5 + 2, none⟩ = some vO ∧
      w.cell? ⟨g, k * 5 + 3, none⟩ = some vR ∧ w.cell? ⟨g, k * 5 + 4, none⟩ = some (.int .i64 m.at_) := by
  have hlt : k < l.length := (List.getElem?_eq_some_iff.1 hk).1
  obtain ⟨vF, vO, vR, hr, hx⟩ := ms_at ha hk
  rcases h.2 with ⟨_, h0⟩ | ⟨g, cap, cur, rfl, _, hh, _⟩
  · omega
  · have key : ∀ (j : Nat) (hj : j < 5) (u : Value), (MC m vF vO vR)[j]? = some u → w.cell? ⟨g, k * 5 + j, none⟩ = some u := by
      intro j hj u hu
      have := h.cells (g := g) rfl (k * 5 + j) u (by rw [hx j hj, hu])
      simpa [Addr.add_lit] using this
    exact ⟨g, cap, vF, vO, vR, rfl, (Array.getElem?_eq_some_iff.1 hh).1, hr, key 0 (by omega) _ rfl, key 1 (by omega) _ rfl, key 2 (by omega) _ rfl, key 3 (by omega) _ rfl, key 4 (by omega) _ rfl⟩
theorem enrow_at {w : World} {b : Nat} {v : Value} {l : List En} {xs : List Value} (h : w.ownsRow b 65 3 v l.length xs) (ha : EnAre w l xs) {k : Nat} {m : En} (hk : l[k]? = some m) :
    ∃ g cap vV, v = .slice (some ⟨g, 0, none⟩) l.length cap ∧ g < w.heap.size ∧ ERead w m vV ∧ w.cell? ⟨g, k * 3, none⟩ = some (.string (txt m.name)) ∧ w.cell? ⟨g, k * 3 + 1, none⟩ = some vV ∧ w.cell? ⟨g, k * 3 + 2, none⟩ = some (.int .i64 m.at_) := by
  have hlt : k < l.length := (List.getElem?_eq_some_iff.1 hk).1
  obtain ⟨vV, hr, hx⟩ := en_at ha hk
  rcases h.2 with ⟨_, h0⟩ | ⟨g, cap, cur, rfl, _, hh, _⟩
  · omega
  · have key : ∀ (j : Nat) (hj : j < 3) (u : Value), (EC m vV)[j]? = some u → w.cell? ⟨g, k * 3 + j, none⟩ = some u := by
      intro j hj u hu
      have := h.cells (g := g) rfl (k * 3 + j) u (by rw [hx j hj, hu])
      simpa [Addr.add_lit] using this
    exact ⟨g, cap, vV, rfl, (Array.getElem?_eq_some_iff.1 hh).1, hr, key 0 (by omega) _ rfl, key 1 (by omega) _ rfl, key 2 (by omega) _ rfl⟩
structure FlOk (f : Fl) : Prop where
  m : ∀ m ∈ f.M, MsOk m
  e : ∀ e ∈ f.E, (∀ d ∈ e.V, VlOk d) ∧ e.V.length ≤ 1000000
  lm : f.M.length ≤ 1000000
  le : f.E.length ≤ 1000000
def listB {α : Type} (g : α → List UInt8) (l : List α) : List UInt8 := (l.map g).flatten
theorem listB_take {α : Type} (g : α → List UInt8) (l : List α) (k : Nat) (d : α) (h : l[k]? = some d) : listB g (l.take (k + 1)) = listB g (l.take k) ++ g d := by
  rw [List.take_add_one, h]; simp [listB]
theorem listB_le {α : Type} (g : α → List UInt8) (l : List α) (k : Nat) : (listB g (l.take k)).length ≤ (listB g l).length := by
  conv => rhs; rw [← List.take_append_drop k l]
  simp only [listB, List.map_append, List.flatten_append, List.length_append]
  omega
def PfRel {α : Type} (B : Nat) (g : α → List UInt8) (L : List UInt8) (l : List α) (w : World) (o i : Value) (wr : World) : Prop := ∃ k : Nat, i = .int .i64 k ∧ k ≤ l.length ∧ Out B wr o (L ++ listB g (l.take k)) ∧ Pr B w wr
theorem PfRel.mk {α : Type} {B : Nat} {g : α → List UInt8} {L : List UInt8} {l : List α} {w wr : World} {o i : Value} (k : Nat) (h1 : i = .int .i64 k) (h2 : k ≤ l.length) (h3 : Out B wr o (L ++ listB g (l.take k))) (h4 : Pr B w wr) : PfRel B g L l w o i wr := ⟨k, h1, h2, h3, h4⟩
set_option maxHeartbeats 8000000 in
theorem print_any (f : Fl) (vM vE : Value) (w : World) (LV : Laid w) (hf : FRead w f vM vE) (hok : FlOk f) (hl : (fileB f).length ≤ 1000000000) :
    Calls Tryz.prog 28 #[.agg #[vM, vE]] w fun e w' => e = .returned (.string (txt (fileB f))) ∧ Below w.heap.size w w' := by
  obtain ⟨M, E⟩ := f
  obtain ⟨xs, ys, h1, h2, h3, h4⟩ := hf
  simp only at h1 h2 h3 h4
  obtain ⟨A1, q1, e1, -⟩ := Sl.of_own h1
  obtain ⟨A2, q2, e2, -⟩ := Sl.of_own h3
  subst e1 e2
  have HM := Lib.hid h1
  have HMA := Lib.hid h2
  have HE := Lib.hid h3
  have HEA := Lib.hid h4
  have hlm := hok.lm
  have hle := hok.le
  simp only at hlm hle
  have HOK := Lib.hid hok
  have HLV := Lib.hid (LaidB.start LV)
  have HT : Hid (fileB ⟨M, E⟩ = listB messageB M ++ listB enumB E) := Lib.hid rfl
  have hln : (listB messageB M).length + (listB enumB E).length ≤ 1000000000 := by rw [HT.out, List.length_append] at hl; exact hl
  have HLN := Lib.hid hln
  clear hl hln hok h1 h2 h3 h4 LV
  go_enter Tryz.func28, Tryz.ntmps28
  go_wp2
  go_loopw [3, 11] (fun o i wr => PfRel w.heap.size messageB [] M (w.alloc (.cells #[.slice A1 M.length q1, .slice A2 E.length q2] 25)) o i wr) (fun _ i _ => M.length - (intOf i).toNat)
  case atStart => exact PfRel.mk 0 rfl (by omega) (World.ownsRow_nil _ _ _ _) (Pr.refl _ _)
  case round =>
    obtain ⟨k, rfl, hk, ho, hpr⟩ := hrel
    have HO5 := Lib.hid ho
    have hp0 : Pr w.heap.size w (w.alloc (.cells #[.slice A1 M.length q1, .slice A2 E.length q2] 25)) := (Pr.refl _ _).alloc (Nat.le_refl _) _
    have HPW := Lib.hid (hp0.trans hpr)
    have HPR := Lib.hid hpr
    have hsz := hpr.size
    simp at hsz
    clear ho hpr hp0
    by_cases h1 : k < M.length
    · obtain ⟨m, hdk⟩ : ∃ m, M[k]? = some m := ⟨_, List.getElem?_eq_getElem h1⟩
      obtain ⟨g, cap, vF, vO, vR, hv, hg, hmr, c0, c1, c2, c3, c4⟩ := msrow_at (HPW.out.own HM.out (by decide)) (HMA.out.leaf HPW.out.leaf) hdk
      injection hv with hA hn hc
      subst hA hc
      have hmok := HOK.out.m m (List.mem_of_getElem? hdk)
      have hft := listB_take messageB M k m hdk
      have hfl := listB_le messageB M (k + 1)
      rw [hft, List.length_append] at hfl
      have HFT := Lib.hid hft
      have hle2 : ([] ++ listB messageB (M.take k)).length + (messageB m).length ≤ 1000000000 := by
        have := HLN.out
        simp only [List.nil_append]
        omega
      obtain ⟨B1, r1, e1, -⟩ := Sl.of_own hmr.f
      obtain ⟨B2, r2, e2, -⟩ := Sl.of_own hmr.o
      obtain ⟨B3, r3, e3, -⟩ := Sl.of_own hmr.r
      subst e1 e2 e3
      have H2 := Lib.hid (pmsg_any w.heap.size _ _ _ _ _ m (wr.alloc (.cells #[.string (txt m.name), .slice B1 m.F.length r1, .slice B2 m.ones.length r2, .slice B3 m.res.length r3, .int .i64 m.at_] 51)) ((HLV.out.pr HPW.out).pr ((Pr.refl _ _).alloc (by omega) _)) (HO5.out.alloc _) (hmr.leaf (Leaf.alloc _ _)) (by simp; omega) hmok hle2)
      have HXM : Hid (MsV m (.slice B1 m.F.length r1) (.slice B2 m.ones.length r2) (.slice B3 m.res.length r3) = .agg #[.string (txt m.name), .slice B1 m.F.length r1, .slice B2 m.ones.length r2, .slice B3 m.res.length r3, .int .i64 m.at_]) := Lib.hid rfl
      rw [HXM.out] at H2
      clear hmok hft hdk hfl hle2 hn hmr
      go_wp2_with fail
      refine H2.out.mono ?_
      rintro e w8 ⟨v8, rfl, ho8, hpr8⟩
      go_wp2
      refine ⟨PfRel.mk (k + 1) (by go_num) (by omega) ?_ ((HPR.out.trans ((Pr.refl _ _).alloc (by omega) _)).trans hpr8), by simp [intOf]; omega⟩
      rw [HFT.out, ← List.append_assoc]
      exact ho8
    · obtain rfl : k = M.length := by omega
      rw [List.take_of_length_le (Nat.le_refl _), List.nil_append] at HO5
      have hb := (HPR.out.typed w.heap.size _ _ _ (heap_alloc_new w (.cells #[.slice A1 M.length q1, .slice A2 E.length q2] 25)) (by decide)).trans (heap_alloc_new w _)
      have n1 := heap_cell hb 1
      simp at n1
      have HPX := Lib.hid HPW.out
      clear hb
      go_wp2
      go_loopw [3, 22] (fun o i w5 => PfRel w.heap.size enumB (listB messageB M) E wr o i w5) (fun _ i _ => E.length - (intOf i).toNat)
      case atStart => exact PfRel.mk 0 rfl (by omega) (by simpa [listB] using HO5.out) (Pr.refl _ _)
      case round =>
        obtain ⟨k, rfl, hk, ho, hpr⟩ := hrel
        have HO6 := Lib.hid ho
        have HPY := Lib.hid (HPX.out.trans hpr)
        have HPS := Lib.hid hpr
        have hsy := hpr.size
        clear ho hpr
        by_cases h1 : k < E.length
        · obtain ⟨m, hdk⟩ : ∃ m, E[k]? = some m := ⟨_, List.getElem?_eq_getElem h1⟩
          obtain ⟨g, cap, vV, hv, hg, hmr, c0, c1, c2⟩ := enrow_at (HPY.out.own HE.out (by decide)) (HEA.out.leaf HPY.out.leaf) hdk
          injection hv with hA hn hc
          subst hA hc
          obtain ⟨hmo1, hmo2⟩ := HOK.out.e m (List.mem_of_getElem? hdk)
          have hft := listB_take enumB E k m hdk
          have hfl := listB_le enumB E (k + 1)
          rw [hft, List.length_append] at hfl
          have HFT := Lib.hid hft
          have hle2 : (listB messageB M ++ listB enumB (E.take k)).length + (enumB m).length ≤ 1000000000 := by
            have := HLN.out
            rw [List.length_append]
            omega
          obtain ⟨B1, r1, e1, -⟩ := Sl.of_own hmr
          subst e1
          have H2 := Lib.hid (penum_any w.heap.size _ _ _ m (wr.alloc (.cells #[.string (txt m.name), .slice B1 m.V.length r1, .int .i64 m.at_] 65)) ((HLV.out.pr HPY.out).pr ((Pr.refl _ _).alloc (by omega) _)) (HO6.out.alloc _) (hmr.leaf (Leaf.alloc _ _)) (by simp; omega) hmo1 hle2 hmo2)
          have HXM : Hid (EnV m (.slice B1 m.V.length r1) = .agg #[.string (txt m.name), .slice B1 m.V.length r1, .int .i64 m.at_]) := Lib.hid rfl
          rw [HXM.out] at H2
          clear hmo1 hmo2 hft hdk hfl hle2 hn hmr
          go_wp2_with fail
          refine H2.out.mono ?_
          rintro e w8 ⟨v8, rfl, ho8, hpr8⟩
          go_wp2
          refine ⟨PfRel.mk (k + 1) (by go_num) (by omega) ?_ ((HPS.out.trans ((Pr.refl _ _).alloc (by omega) _)).trans hpr8), by simp [intOf]; omega⟩
          rw [HFT.out, ← List.append_assoc]
          exact ho8
        · obtain rfl : k = E.length := by omega
          rw [List.take_of_length_le (Nat.le_refl _)] at HO6
          obtain ⟨A, c, rfl, hr⟩ := SlB.of_own HO6.out
          have hcv := run_str_of_bytes (P := Tryz.prog) wr 106 9 5 Tryz.underlying106 Tryz.underlying5 Tryz.underlying9 A c _ hr
          rw [← HT.out] at hcv
          have HTT := Lib.hid HT.out
          rw [← HT.out]
          clear hr
          go_wp2
          go_ret
          exact ⟨rfl, HPY.out.os, HPY.out.tape, HPY.out.output, HPY.out.size, HPY.out.block⟩
end Go.Proofs.YtciiemomfniecaaGreatDoor
/-
  A file that comes in: its rows lie below a place, wherever they begin; what is read of them.
-/
namespace Go.Proofs.YtciiemomfniecaaGreatDoor
set_option maxRecDepth 100000

open Go.RowKit

/-- A row that lies below B, wherever it begins. -/
def Rb (B : Nat) (w : World) (v : Value) (n size : Nat) (xs : List Value) : Prop := ∃ A c, v = .slice A n c ∧ Sl w A n c size xs ∧ ∀ ad, A = some ad → 0 < n → ad.block < B
/-- What lies below B is as it was. -/
def Low (B : Nat) (w w' : World) : Prop := w.heap.size ≤ w'.heap.size ∧ ∀ k, k < B → w'.heap[k]? = w.heap[k]?
theorem Low.refl (B : Nat) (w : World) : Low B w w := ⟨Nat.le_refl _, fun _ _ => rfl⟩
theorem Low.trans {B : Nat} {a b c : World} (h : Low B a b) (k : Low B b c) : Low B a c := ⟨Nat.le_trans h.1 k.1, fun i hi => (k.2 i hi).trans (h.2 i hi)⟩
theorem Pr.low {B : Nat} {w w' : World} (h : Pr B w w') : Low B w w' := ⟨h.size, h.block⟩
theorem Low.below {B : Nat} {w w' : World} (h : Below w.heap.size w w') (hB : B ≤ w.heap.size) : Low B w w' := ⟨h.size, fun k hk => h.block k (by omega)⟩
theorem Low.of {B : Nat} {w w' : World} (h : Below B w w') : Low B w w' := ⟨h.size, h.block⟩
theorem Low.alloc {B : Nat} (w : World) (o : Obj) (hB : B ≤ w.heap.size) : Low B w (w.alloc o) := Low.below (below_new w o) hB
theorem Sl.low {B : Nat} {w w' : World} {A : Option Addr} {n c size : Nat} {xs : List Value} (h : Sl w A n c size xs) (hA : ∀ ad, A = some ad → 0 < n → ad.block < B) (hl : Low B w w') : Sl w' A n c size xs := by
  refine ⟨h.len, h.le, h.cap, h.nil, fun ad ha hn => Nat.lt_of_lt_of_le (h.old ad ha hn) hl.1, fun ad ha k u hu => ?_⟩
  have hn : 0 < n := by
    rcases Nat.eq_zero_or_pos n with h0 | h0
    · have := h.len
      rw [h0, Nat.zero_mul] at this
      rw [List.eq_nil_of_length_eq_zero this] at hu
      simp at hu
    · exact h0
  have hk : w'.heap[(ad.add k).block]? = w.heap[(ad.add k).block]? := by rw [add_same_block]; exact hl.2 _ (hA ad ha hn)
  exact (World.cell?_of_block hk).trans (h.cell ad ha k u hu)
theorem Rb.low {B : Nat} {w w' : World} {v : Value} {n size : Nat} {xs : List Value} (h : Rb B w v n size xs) (hl : Low B w w') : Rb B w' v n size xs := by
  obtain ⟨A, c, rfl, h1, h2⟩ := h
  exact ⟨A, c, rfl, h1.low h2 hl, h2⟩
theorem Rb.mono {B B' : Nat} {w : World} {v : Value} {n size : Nat} {xs : List Value} (h : Rb B w v n size xs) (hB : B ≤ B') : Rb B' w v n size xs := by
  obtain ⟨A, c, rfl, h1, h2⟩ := h
  exact ⟨A, c, rfl, h1, fun ad ha hn => Nat.lt_of_lt_of_le (h2 ad ha hn) hB⟩
theorem Rb.of_own {w : World} {b : Nat} {e : TypeId} {v : Value} {n size : Nat} {xs : List Value} (h : w.ownsRow b e size v n xs) : Rb w.heap.size w v n size xs := by
  obtain ⟨A, c, rfl, hs⟩ := Sl.of_own h
  exact ⟨A, c, rfl, hs, fun ad ha hn => hs.old ad ha hn⟩
theorem Rb.one {B : Nat} {w : World} {v : Value} {n size : Nat} {xs : List Value} (h : Rb B w v n size xs) : v.oneCell' = true := by
  obtain ⟨A, c, rfl, _, _⟩ := h
  rfl
/-- Cell j of element k. -/
theorem Sl.elem {w : World} {A : Option Addr} {n c size : Nat} {xs : List Value} (h : Sl w A n c size xs) {k : Nat} (hk : k < n) : ∃ ad, A = some ad ∧ ad.block < w.heap.size ∧ (∀ u, xs[k * size]? = some u → w.cell? (ad.add (k * size)) = some u) ∧
    ∀ j u, 0 < j → xs[k * size + j]? = some u → w.cell? ⟨(ad.add (k * size)).block, (ad.add (k * size)).off + j, none⟩ = some u := by
  obtain ⟨ad, rfl, hb, hcell⟩ := Sl.there h (by omega)
  refine ⟨ad, rfl, hb, fun u hu => hcell _ _ hu, fun j u hj hu => ?_⟩
  have e : (⟨(ad.add (k * size)).block, (ad.add (k * size)).off + j, none⟩ : Addr) = ad.add (k * size + j) := by
    rw [← add_twice]
    cases j with
    | zero => omega
    | succ j => simp [Addr.add]
  rw [e]
  exact hcell _ _ hu

/-! ### Files that come in -/

structure MAt (B : Nat) (w : World) (m : Ms) (vF vO vR : Value) : Prop where
  f : Rb B w vF m.F.length 7 (fdv m.F)
  o : Rb B w vO m.ones.length 1 (strv m.ones)
  r : Rb B w vR m.res.length 1 (intv m.res)
def EAt (B : Nat) (w : World) (e : En) (vV : Value) : Prop := Rb B w vV e.V.length 3 (vlv e.V)
theorem MAt.low {B : Nat} {w w' : World} {m : Ms} {vF vO vR : Value} (h : MAt B w m vF vO vR) (hl : Low B w w') : MAt B w' m vF vO vR := ⟨h.f.low hl, h.o.low hl, h.r.low hl⟩
theorem EAt.low {B : Nat} {w w' : World} {e : En} {vV : Value} (h : EAt B w e vV) (hl : Low B w w') : EAt B w' e vV := Rb.low h hl
theorem MAt.mono {B B' : Nat} {w : World} {m : Ms} {vF vO vR : Value} (h : MAt B w m vF vO vR) (hB : B ≤ B') : MAt B' w m vF vO vR := ⟨h.f.mono hB, h.o.mono hB, h.r.mono hB⟩
theorem EAt.mono {B B' : Nat} {w : World} {e : En} {vV : Value} (h : EAt B w e vV) (hB : B ≤ B') : EAt B' w e vV := Rb.mono h hB
def MsAt (B : Nat) (w : World) : List Ms → List Value → Prop
  | [], xs => xs = []
  | m :: l, xs => ∃ vF vO vR ys, xs = MC m vF vO vR ++ ys ∧ MAt B w m vF vO vR ∧ MsAt B w l ys
def EnAt (B : Nat) (w : World) : List En → List Value → Prop
  | [], xs => xs = []
  | e :: l, xs => ∃ vV ys, xs = EC e vV ++ ys ∧ EAt B w e vV ∧ EnAt B w l ys
theorem MsAt.low {B : Nat} {w w' : World} (hl : Low B w w') : ∀ {l : List Ms} {xs : List Value}, MsAt B w l xs → MsAt B w' l xs
  | [], _, h => h
  | _ :: _, _, ⟨vF, vO, vR, ys, h1, h2, h3⟩ => ⟨vF, vO, vR, ys, h1, h2.low hl, h3.low hl⟩
theorem EnAt.low {B : Nat} {w w' : World} (hl : Low B w w') : ∀ {l : List En} {xs : List Value}, EnAt B w l xs → EnAt B w' l xs
  | [], _, h => h
  | _ :: _, _, ⟨vV, ys, h1, h2, h3⟩ => ⟨vV, ys, h1, h2.low hl, h3.low hl⟩
theorem MsAt.mono {B B' : Nat} {w : World} (hB : B ≤ B') : ∀ {l : List Ms} {xs : List Value}, MsAt B w l xs → MsAt B' w l xs
  | [], _, h => h
  | _ :: _, _, ⟨vF, vO, vR, ys, h1, h2, h3⟩ => ⟨vF, vO, vR, ys, h1, h2.mono hB, h3.mono hB⟩
theorem EnAt.mono {B B' : Nat} {w : World} (hB : B ≤ B') : ∀ {l : List En} {xs : List Value}, EnAt B w l xs → EnAt B' w l xs
  | [], _, h => h
  | _ :: _, _, ⟨vV, ys, h1, h2, h3⟩ => ⟨vV, ys, h1, h2.mono hB, h3.mono hB⟩
theorem MsAt.of_own {w : World} : ∀ {l : List Ms} {xs : List Value}, MsAre w l xs → MsAt w.heap.size w l xs
  | [], _, h => h
  | _ :: _, _, ⟨vF, vO, vR, ys, h1, h2, h3⟩ => ⟨vF, vO, vR, ys, h1, ⟨Rb.of_own h2.f, Rb.of_own h2.o, Rb.of_own h2.r⟩, MsAt.of_own h3⟩
theorem EnAt.of_own {w : World} : ∀ {l : List En} {xs : List Value}, EnAre w l xs → EnAt w.heap.size w l xs
  | [], _, h => h
  | _ :: _, _, ⟨vV, ys, h1, h2, h3⟩ => ⟨vV, ys, h1, Rb.of_own h2, EnAt.of_own h3⟩
/-- A file, as it is read, wherever it lies below B. -/
def FAt (B : Nat) (w : World) (f : Fl) (vM vE : Value) : Prop := ∃ xs ys, Rb B w vM f.M.length 5 xs ∧ MsAt B w f.M xs ∧ Rb B w vE f.E.length 3 ys ∧ EnAt B w f.E ys
theorem FAt.low {B : Nat} {w w' : World} {f : Fl} {vM vE : Value} (h : FAt B w f vM vE) (hl : Low B w w') : FAt B w' f vM vE := by
  obtain ⟨xs, ys, h1, h2, h3, h4⟩ := h
  exact ⟨xs, ys, h1.low hl, h2.low hl, h3.low hl, h4.low hl⟩
theorem FAt.mono {B B' : Nat} {w : World} {f : Fl} {vM vE : Value} (h : FAt B w f vM vE) (hB : B ≤ B') : FAt B' w f vM vE := by
  obtain ⟨xs, ys, h1, h2, h3, h4⟩ := h
  exact ⟨xs, ys, h1.mono hB, h2.mono hB, h3.mono hB, h4.mono hB⟩
theorem FRead.at {w : World} {f : Fl} {vM vE : Value} (h : FRead w f vM vE) : FAt w.heap.size w f vM vE := by
  obtain ⟨xs, ys, h1, h2, h3, h4⟩ := h
  exact ⟨xs, ys, Rb.of_own h1, MsAt.of_own h2, Rb.of_own h3, EnAt.of_own h4⟩

/-! ### What lies at a place -/

theorem fdr_at {w : World} {A : Option Addr} {c : Nat} {l : List Fd} (h : Sl w A l.length c 7 (fdv l)) {k : Nat} {d : Fd} (hk : l[k]? = some d) :
    ∃ ad, A = some ad ∧ ad.block < w.heap.size ∧ w.cell? (ad.add (k * 7)) = some (.string (txt d.type)) ∧ w.cell? ⟨(ad.add (k * 7)).block, (ad.add (k * 7)).off + 1, none⟩ = some (.string (txt d.key)) ∧ w.cell? ⟨(ad.add (k * 7)).block, (ad.add (k * 7)).off + 2, none⟩ = some (.bool d.rep) ∧
      w.cell? ⟨(ad.add (k * 7)).block, (ad.add (k * 7)).off + 3, none⟩ = some (.int .i64 d.one) ∧ w.cell? ⟨(ad.add (k * 7)).block, (ad.add (k * 7)).off + 4, none⟩ = some (.string (txt d.name)) ∧ w.cell? ⟨(ad.add (k * 7)).block, (ad.add (k * 7)).off + 5, none⟩ = some (.int .i64 d.no) ∧ w.cell? ⟨(ad.add (k * 7)).block, (ad.add (k * 7)).off + 6, none⟩ = some (.int .i64 d.at_) := by
  obtain ⟨ad, rfl, hb, h0, hj⟩ := Sl.elem h (List.getElem?_eq_some_iff.1 hk).1
  have hv := fun (j : Nat) (hj : j < 7) => fdv_get l k j d hk hj
  refine ⟨ad, rfl, hb, h0 _ (by have := hv 0 (by omega); rw [Nat.add_zero] at this; rw [this]; rfl), hj 1 _ (by omega) (by rw [hv 1 (by omega)]; rfl), hj 2 _ (by omega) (by rw [hv 2 (by omega)]; rfl), hj 3 _ (by omega) (by rw [hv 3 (by omega)]; rfl), hj 4 _ (by omega) (by rw [hv 4 (by omega)]; rfl), hj 5 _ (by omega) (by rw [hv 5 (by omega)]; rfl), hj 6 _ (by omega) (by rw [hv 6 (by omega)]; rfl)⟩
theorem vlr_at {w : World} {A : Option Addr} {c : Nat} {l : List Vl} (h : Sl w A l.length c 3 (vlv l)) {k : Nat} {d : Vl} (hk : l[k]? = some d) :
    ∃ ad, A = some ad ∧ ad.block < w.heap.size ∧ w.cell? (ad.add (k * 3)) = some (.string (txt d.name)) ∧ w.cell? ⟨(ad.add (k * 3)).block, (ad.add (k * 3)).off + 1, none⟩ = some (.int .i64 d.n) ∧ w.cell? ⟨(ad.add (k * 3)).block, (ad.add (k * 3)).off + 2, none⟩ = some (.int .i64 d.at_) := by
  obtain ⟨ad, rfl, hb, h0, hj⟩ := Sl.elem h (List.getElem?_eq_some_iff.1 hk).1
  have hv := fun (j : Nat) (hj : j < 3) => vlv_get l k j d hk hj
  refine ⟨ad, rfl, hb, h0 _ (by have := hv 0 (by omega); rw [Nat.add_zero] at this; rw [this]; rfl), hj 1 _ (by omega) (by rw [hv 1 (by omega)]; rfl), hj 2 _ (by omega) (by rw [hv 2 (by omega)]; rfl)⟩
theorem intr_at {w : World} {A : Option Addr} {c : Nat} {l : List Int} (h : Sl w A l.length c 1 (intv l)) {k : Nat} {n : Int} (hk : l[k]? = some n) : ∃ ad, A = some ad ∧ ad.block < w.heap.size ∧ w.cell? (ad.add k) = some (.int .i64 n) := by
  obtain ⟨ad, rfl, hb, hc⟩ := Sl.there h (by have := (List.getElem?_eq_some_iff.1 hk).1; omega)
  exact ⟨ad, rfl, hb, hc k _ (by simp [intv, hk])⟩
theorem strr_at {w : World} {A : Option Addr} {c : Nat} {l : List (List UInt8)} (h : Sl w A l.length c 1 (strv l)) {k : Nat} {x : List UInt8} (hk : l[k]? = some x) : ∃ ad, A = some ad ∧ ad.block < w.heap.size ∧ w.cell? (ad.add k) = some (.string (txt x)) := by
  obtain ⟨ad, rfl, hb, hc⟩ := Sl.there h (by have := (List.getElem?_eq_some_iff.1 hk).1; omega)
  exact ⟨ad, rfl, hb, hc k _ (by simp [strv, hk])⟩
theorem msr_list {B : Nat} {w : World} : ∀ {l : List Ms} {xs : List Value}, MsAt B w l xs → ∀ {k : Nat} {m : Ms}, l[k]? = some m → ∃ vF vO vR, MAt B w m vF vO vR ∧ ∀ j, j < 5 → xs[k * 5 + j]? = (MC m vF vO vR)[j]?
  | [], xs, _, k, m, hk => by simp at hk
  | x :: l, xs, ⟨vF, vO, vR, ys, h1, h2, h3⟩, 0, m, hk => by
    obtain rfl : x = m := by simpa using hk
    refine ⟨vF, vO, vR, h2, fun j hj => ?_⟩
    rw [h1, Nat.zero_mul, Nat.zero_add, List.getElem?_append_left (by simp [MC]; omega)]
  | x :: l, xs, ⟨vF, vO, vR, ys, h1, h2, h3⟩, k + 1, m, hk => by
    obtain ⟨a, b, c, h4, h5⟩ := msr_list h3 (k := k) (m := m) (by simpa using hk)
    refine ⟨a, b, c, h4, fun j hj => ?_⟩
    rw [h1, List.getElem?_append_right (by simp [MC]; omega), ← h5 j hj]
    congr 1
    simp [MC]; omega
theorem enr_list {B : Nat} {w : World} : ∀ {l : List En} {xs : List Value}, EnAt B w l xs → ∀ {k : Nat} {m : En}, l[k]? = some m → ∃ vV, EAt B w m vV ∧ ∀ j, j < 3 → xs[k * 3 + j]? = (EC m vV)[j]?
  | [], xs, _, k, m, hk => by simp at hk
  | x :: l, xs, ⟨vV, ys, h1, h2, h3⟩, 0, m, hk => by
    obtain rfl : x = m := by simpa using hk
    refine ⟨vV, h2, fun j hj => ?_⟩
    rw [h1, Nat.zero_mul, Nat.zero_add, List.getElem?_append_left (by simp [EC]; omega)]
  | x :: l, xs, ⟨vV, ys, h1, h2, h3⟩, k + 1, m, hk => by
    obtain ⟨a, h4, h5⟩ := enr_list h3 (k := k) (m := m) (by simpa using hk)
    refine ⟨a, h4, fun j hj => ?_⟩
    rw [h1, List.getElem?_append_right (by simp [EC]; omega), ← h5 j hj]
    congr 1
    simp [EC]; omega
theorem msr_at {B : Nat} {w : World} {A : Option Addr} {c : Nat} {l : List Ms} {xs : List Value} (h : Sl w A l.length c 5 xs) (ha : MsAt B w l xs) {k : Nat} {m : Ms} (hk : l[k]? = some m) :
    ∃ ad vF vO vR, A = some ad ∧ ad.block < w.heap.size ∧ MAt B w m vF vO vR ∧ w.cell? (ad.add (k * 5)) = some (.string (txt m.name)) ∧ w.cell? ⟨(ad.add (k * 5)).block, (ad.add (k * 5)).off + 1, none⟩ = some vF ∧ w.cell? ⟨(ad.add (k * 5)).block, (ad.add (k * 5)).off + 2, none⟩ = some vO ∧
      w.cell? ⟨(ad.add (k * 5)).block, (ad.add (k * 5)).off + 3, none⟩ = some vR ∧ w.cell? ⟨(ad.add (k * 5)).block, (ad.add (k * 5)).off + 4, none⟩ = some (.int .i64 m.at_) := by
  obtain ⟨vF, vO, vR, hr, hx⟩ := msr_list ha hk
  obtain ⟨ad, rfl, hb, h0, hj⟩ := Sl.elem h (List.getElem?_eq_some_iff.1 hk).1
  refine ⟨ad, vF, vO, vR, rfl, hb, hr, h0 _ (by have := hx 0 (by omega); rw [Nat.add_zero] at this; rw [this]; rfl), hj 1 _ (by omega) (by rw [hx 1 (by omega)]; rfl), hj 2 _ (by omega) (by rw [hx 2 (by omega)]; rfl), hj 3 _ (by omega) (by rw [hx 3 (by omega)]; rfl), hj 4 _ (by omega) (by rw [hx 4 (by omega)]; rfl)⟩
theorem enr_at {B : Nat} {w : World} {A : Option Addr} {c : Nat} {l : List En} {xs : List Value} (h : Sl w A l.length c 3 xs) (ha : EnAt B w l xs) {k : Nat} {m : En} (hk : l[k]? = some m) :
    ∃ ad vV, A = some ad ∧ ad.block < w.heap.size ∧ EAt B w m vV ∧ w.cell? (ad.add (k * 3)) = some (.string (txt m.name)) ∧ w.cell? ⟨(ad.add (k * 3)).block, (ad.add (k * 3)).off + 1, none⟩ = some vV ∧ w.cell? ⟨(ad.add (k * 3)).block, (ad.add (k * 3)).off + 2, none⟩ = some (.int .i64 m.at_) := by
  obtain ⟨vV, hr, hx⟩ := enr_list ha hk
  obtain ⟨ad, rfl, hb, h0, hj⟩ := Sl.elem h (List.getElem?_eq_some_iff.1 hk).1
  refine ⟨ad, vV, rfl, hb, hr, h0 _ (by have := hx 0 (by omega); rw [Nat.add_zero] at this; rw [this]; rfl), hj 1 _ (by omega) (by rw [hx 1 (by omega)]; rfl), hj 2 _ (by omega) (by rw [hx 2 (by omega)]; rfl)⟩
end Go.Proofs.YtciiemomfniecaaGreatDoor
/-
  A file as an argument: how it lies there.
-/
namespace Go.Proofs.YtciiemomfniecaaGreatDoor
set_option maxRecDepth 100000

open Go.RowKit Go.ChangeShapes Go.WideShapes Go.ChangeAt

section

variable {H : Type} {enc : TypeId × Value → H} {W : World} {n : Nat}

theorem txt_bytes (s : ByteArray) : s = txt s.data.toList := (txt_of s).symm
/-- A slice whose elements are read one by one. -/
theorem open_rows {α : Type} [Inhabited α] {t e : TypeId} {size : Nat} {v : Value} {x : DataW H × List MemPlace} (ht : Tryz.prog.underlying t = some (.slice e)) (hc : Tryz.prog.cellsOf e = size) (hpos : 0 < size)
    (C : α → List Value → Prop) (hone : ∀ (n : Nat) (cs : List Value) (y : DataW H × List MemPlace), cs.length = size → DataW.trod enc Tryz.prog W 0 (fun _ => true) true n e cs = some y → ∃ a, C a cs)
    (h : DataW.trod enc Tryz.prog W 0 (fun _ => true) true n t [v] = some x) :
    ∃ (A : Option Addr) (c : Nat) (l : List (α × List Value)), v = .slice A l.length c ∧ Sl W A l.length c size (l.flatMap Prod.snd) ∧ (∀ y ∈ l, C y.1 y.2 ∧ y.2.length = size) ∧ (∀ ad, A = some ad → 0 < l.length → ad.block < W.heap.size) := by
  rcases Deep.open_slice ht h with ⟨h0, _⟩ | ⟨a, len, cap, m, k, D, Pl, h0, _, hl, hm, hmm, _, hx⟩
  · have hv : v = .slice none 0 0 := by simpa using h0
    exact ⟨none, 0, [], hv, Sl.nothing W size, by simp, by simp⟩
  · have hv : v = .slice (some a) len cap := by simpa using h0
    subst hv
    have hlm : len ≤ m := by rw [hmm]; split <;> omega
    rw [hc] at hx
    have hy : ∀ i, i < len → ∃ y : α × List Value, C y.1 y.2 ∧ y.2.length = size ∧ W.cells? 0 (a.add (i * size)) size = some y.2 := fun i hi => by
      obtain ⟨cs, h1, h2⟩ := hx i (by omega)
      have hl2 := (World.cells?_some h1).2.1
      obtain ⟨b, hb⟩ := hone k cs _ hl2 h2
      exact ⟨(b, cs), hb, hl2, h1⟩
    obtain ⟨f, hf⟩ := Deep.choose_lt hy
    have hget : ∀ (L : List Nat) (i : Nat), (∀ j ∈ L, j < len) → i < L.length → ∀ q, q < size → ((L.map f).flatMap Prod.snd)[i * size + q]? = (f (L.getD i 0)).2[q]? := by
      intro L
      induction L with
      | nil => intro i _ hi; simp at hi
      | cons j L ih =>
        intro i hL hi q hq
        have hj := (hf j (hL j (by simp))).2.1
        cases i with
        | zero =>
          rw [List.map_cons, List.flatMap_cons, Nat.zero_mul, Nat.zero_add, List.getElem?_append_left (by omega)]
          rfl
        | succ i =>
          rw [List.map_cons, List.flatMap_cons, List.getElem?_append_right (by rw [hj, Nat.succ_mul]; omega), hj, show (i + 1) * size + q - size = i * size + q by rw [Nat.succ_mul]; omega]
          exact ih i (fun x hx => hL x (by simp [hx])) (by simpa using hi) q hq
    have hlen : ∀ (L : List Nat), (∀ j ∈ L, j < len) → ((L.map f).flatMap Prod.snd).length = L.length * size := by
      intro L
      induction L with
      | nil => intro _; simp
      | cons j L ih =>
        intro hL
        have hj := (hf j (hL j (by simp))).2.1
        rw [List.map_cons, List.flatMap_cons, List.length_append, hj, ih (fun x hx => hL x (by simp [hx])), List.length_cons, Nat.succ_mul]
        omega
    have hr : ∀ j ∈ List.range len, j < len := fun j hj => List.mem_range.1 hj
    have hcell : ∀ k u, (((List.range len).map f).flatMap Prod.snd)[k]? = some u → W.cell? (a.add k) = some u := by
      intro k u hu
      have hk : k < len * size := by
        have := (List.getElem?_eq_some_iff.1 hu).1
        rw [hlen _ hr, List.length_range] at this
        exact this
      have hi : k / size < len := (Nat.div_lt_iff_lt_mul hpos).2 hk
      have hq : k % size < size := Nat.mod_lt _ hpos
      have hk2 : k = k / size * size + k % size := by rw [Nat.mul_comm]; exact (Nat.div_add_mod k size).symm
      rw [hk2, hget (List.range len) (k / size) hr (by simpa using hi) _ hq] at hu
      have e : (List.range len).getD (k / size) 0 = k / size := by rw [List.getD_eq_getElem?_getD, List.getElem?_range hi]; rfl
      rw [e] at hu
      have h1 := (World.cells?_some (hf (k / size) hi).2.2).2.2 (k % size) hq
      rw [hu, add_twice, ← hk2] at h1
      exact h1
    refine ⟨some a, cap, (List.range len).map f, by simp, ⟨by rw [hlen _ hr]; simp, by simpa using hl, hm, by simp, fun ad ha hn => ?_, fun ad ha k u hu => ?_⟩, fun y hy => ?_, fun ad ha hn => ?_⟩
    · obtain rfl := Option.some.inj ha
      have h0 : 0 < len := by simpa using hn
      have h1 := (World.cells?_some (hf 0 h0).2.2).2.2 0 hpos
      have h2 := (hf 0 h0).2.1
      rw [List.getElem?_eq_getElem (by omega)] at h1
      have hb := World.block_lt_of_cell? W _ h1
      rwa [add_same_block, add_same_block] at hb
    · obtain rfl := Option.some.inj ha
      exact hcell k u hu
    · obtain ⟨i, hi, rfl⟩ := List.mem_map.1 hy
      have := hf i (hr i hi)
      exact ⟨this.1, this.2.1⟩
    · obtain rfl := Option.some.inj ha
      have h0 : 0 < len := by simpa using hn
      have h1 := (World.cells?_some (hf 0 h0).2.2).2.2 0 hpos
      have h2 := (hf 0 h0).2.1
      rw [List.getElem?_eq_getElem (by omega)] at h1
      have hb := World.block_lt_of_cell? W _ h1
      rwa [add_same_block, add_same_block] at hb
end

end Go.Proofs.YtciiemomfniecaaGreatDoor
