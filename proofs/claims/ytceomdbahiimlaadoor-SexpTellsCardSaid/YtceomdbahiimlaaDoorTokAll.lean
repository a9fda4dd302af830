/-
  All tokens of a text: the contracts of the program's function and of the document's.
-/
import Derived.Test.YtceomdbahiimlaaDoorTokReader
import Derived.Test.YtceomdbahiimlaaDoorTokOne
import Derived.Test.YtceomdbahiimlaaDoorTokList
namespace Go.Proofs.YtceomdbahiimlaaDoor
set_option maxRecDepth 100000

open Go.RowKit

theorem infoToks : (Tryd.prog.info? 45).map (fun i => (i.zero, i.size, i.bytes)) = some (some (.agg #[.int .i64 0, .string ⟨#[]⟩, .int .i64 0, .int .i64 0]), 4, 40) := by kernel_rfl
theorem lit_tok (w : World) (r : T) : Sl (w.alloc (.cells #[.int .i64 r.kind, .string (txt r.text), .int .i64 r.num, .int .i64 r.at_] 45)) (some ⟨w.heap.size, 0, none⟩) 1 1 4 (tv [r]) := by
  refine ⟨by simp [tv, TC], Nat.le_refl _, by unfold maxLen; omega, by simp, fun ad ha _ => ?_, fun ad ha k u hu => ?_⟩
  · obtain rfl := Option.some.inj ha
    simp
  · obtain rfl := Option.some.inj ha
    rw [Addr.add_lit, World.cell?_alloc_at _ _ _ _ rfl]
    simpa [tv, TC] using hu
theorem lit_tok2 (w : World) (o : Obj) (r : T) : Sl ((w.alloc o).alloc (.cells #[.int .i64 r.kind, .string (txt r.text), .int .i64 r.num, .int .i64 r.at_] 45)) (some ⟨w.heap.size + 1, 0, none⟩) 1 1 4 (tv [r]) := by
  have h := lit_tok (w.alloc o) r
  rwa [World.size_alloc] at h

/-- What has been read so far. -/
def AllRel (L : List UInt8) (X : List T × Option Nat) (q : Nat) (pre : List T) : Prop := X = (pre ++ (lex Lib.itoa 0 q (L.drop q)).1, (lex Lib.itoa 0 q (L.drop q)).2) ∧ (ws false (L.drop q) = 0 ∧ pre.length ≤ q ∧ pre.length ≤ 1000)
theorem AllRel.start (L : List UInt8) : AllRel L (lex Lib.itoa 0 0 L) (ws false L) [] := by
  refine ⟨?_, ws_drop _ _, by simp, by simp⟩
  rw [lex_ws]
  simp
theorem AllRel.no {L : List UInt8} {X : List T × Option Nat} {q : Nat} {pre : List T} (h : AllRel L X q pre) (hq : q < L.length) (ht : tk Lib.itoa (L.drop q) = none) : X = (pre, some q) ∧ pre.length ≤ 1000 := by
  obtain ⟨h1, h2, h3, h4⟩ := h
  rw [lex_none h2 ht (by intro e; have := congrArg List.length e; simp at this; omega)] at h1
  exact ⟨by simpa using h1, h4⟩
theorem AllRel.fin {L : List UInt8} {X : List T × Option Nat} {q : Nat} {pre : List T} (h : AllRel L X q pre) (hq : L.length ≤ q) : X = (pre, none) ∧ pre.length ≤ 1000 := by
  obtain ⟨h1, h2, h3, h4⟩ := h
  rw [List.drop_of_length_le hq] at h1
  simp only [lex, List.append_nil] at h1
  exact ⟨h1, h4⟩
theorem AllRel.yes {L : List UInt8} {X : List T × Option Nat} {q : Nat} {pre : List T} {t : Tk} (h : AllRel L X q pre) (hq : q < L.length) (ht : tk Lib.itoa (L.drop q) = some t) :
    q + t.more + 1 ≤ L.length ∧ (pre.length < 1000 → AllRel L X (q + t.more + 1 + ws false (L.drop (q + t.more + 1))) (pre ++ [⟨t.kind, t.text, t.num, q⟩])) ∧ (pre.length = 1000 → 1000 < X.1.length ∧ (X.1.getD 1000 default).at_ = q) := by
  obtain ⟨h1, h2, h3, h4⟩ := h
  have hm := tk_more ht
  rw [List.length_drop] at hm
  rw [lex_some h2 ht, List.drop_drop, show q + (t.more + 1) = q + t.more + 1 by omega] at h1
  refine ⟨by omega, fun hl => ⟨?_, by have := ws_drop false (L.drop (q + t.more + 1)); rw [List.drop_drop] at this; exact this, by simp; omega, by simp; omega⟩, fun hl => ?_⟩
  · rw [h1, lex_ws (q + t.more + 1) (L.drop (q + t.more + 1)), List.drop_drop]
    simp
  · rw [h1]
    constructor
    · simp; omega
    · simp only
      rw [List.getD_eq_getElem?_getD, List.getElem?_append_right (by omega), hl]
      rfl
theorem ans_none {X : List T × Option Nat} {n q : Nat} {pre : List T} (h : X = (pre, some q) ∧ pre.length ≤ 1000) : ansT X = [] ∧ ansAt n X = q ∧ ansE X = 4 := by
  obtain ⟨rfl, h⟩ := h
  have : ¬ 1000 < pre.length := by omega
  simp [ansT, ansAt, ansE, this]
theorem ans_end {X : List T × Option Nat} {n : Nat} {pre : List T} (h : X = (pre, none) ∧ pre.length ≤ 1000) : ansT X = pre ∧ ansAt n X = n ∧ ansE X = 0 := by
  obtain ⟨rfl, h⟩ := h
  have : ¬ 1000 < pre.length := by omega
  simp [ansT, ansAt, ansE, this]
theorem ans_long {X : List T × Option Nat} {n q : Nat} (h : 1000 < X.1.length ∧ (X.1.getD 1000 default).at_ = q) : ansT X = [] ∧ ansAt n X = q ∧ ansE X = 2 := by
  obtain ⟨h1, h2⟩ := h
  simp only [ansT, ansAt, ansE, if_pos h1, h2, and_self]
def AllPost (l : List T) (p e : Nat) (w : World) (r : Ending) (w' : World) : Prop :=
  ∃ v, r = .returned (.tuple #[v, .int .i64 p, .int .i64 e]) ∧ w'.ownsRow w.heap.size 45 4 v l.length (tv l) ∧ Below w.heap.size w w'
theorem AllPost.mk {l : List T} {p e : Nat} {w w' : World} {v : Value} (h : w'.ownsRow w.heap.size 45 4 v l.length (tv l)) (hb : Below w.heap.size w w') : AllPost l p e w (.returned (.tuple #[v, .int .i64 p, .int .i64 e])) w' := ⟨v, rfl, h, hb⟩
theorem AllPost.no {l : List T} {p e q x : Nat} {w w' : World} (h : l = [] ∧ p = q ∧ e = x) (hb : Below w.heap.size w w') : AllPost l p e w (.returned (.tuple #[.slice none 0 0, .int .i64 q, .int .i64 x])) w' := by
  obtain ⟨rfl, rfl, rfl⟩ := h
  exact ⟨_, rfl, World.ownsRow_nil _ _ _ _, hb⟩

set_option maxRecDepth 1000000 in
set_option maxHeartbeats 2000000 in
theorem rall_any (s : ByteArray) (hs : s.size ≤ 1000000) (w : World) :
    Calls Tryd.prog 22 #[.string s] w fun e w' => AllPost (allT Lib.itoa s.data.toList) (allAt Lib.itoa s.data.toList) (allE Lib.itoa s.data.toList) w e w' := by
  obtain ⟨i0, hi, hz0, hz1, hz2⟩ := info_parts infoToks
  have hsl : s.data.toList.length = s.size := by simp
  by_cases h5 : 5000 < s.size
  · have HA := Lib.hid (show allT Lib.itoa s.data.toList = [] ∧ allAt Lib.itoa s.data.toList = 0 ∧ allE Lib.itoa s.data.toList = 2 by
      simp only [allT, allAt, allE, hsl, if_pos h5, and_self])
    generalize allT Lib.itoa s.data.toList = X1 at *
    generalize allAt Lib.itoa s.data.toList = X2 at *
    generalize allE Lib.itoa s.data.toList = X3 at *
    clear hsl
    go_enter Tryd.func22, Tryd.ntmps22
    go_wp2_with fail
    go_ret3
    exact AllPost.no HA.out (Below.refl _ _)
  · have hA : allT Lib.itoa s.data.toList = ansT (lex Lib.itoa 0 0 s.data.toList) ∧ allAt Lib.itoa s.data.toList = ansAt s.size (lex Lib.itoa 0 0 s.data.toList) ∧ allE Lib.itoa s.data.toList = ansE (lex Lib.itoa 0 0 s.data.toList) := by
      simp only [allT, allAt, allE, hsl, if_neg h5, and_self]
    rw [hA.1, hA.2.1, hA.2.2]
    have hst := AllRel.start s.data.toList
    have hwl := ws_le false s.data.toList
    rw [hsl] at hwl
    have hbl := fun k hk w => blank_any s hs k hk w
    have hone := fun k hk w => rone_any s hs k hk w
    have hwd : ∀ k, ws false (s.data.toList.drop k) ≤ s.size - k := fun k => by
      have := ws_le false (s.data.toList.drop k)
      rwa [List.length_drop, hsl] at this
    have hno := fun q pre (h : AllRel s.data.toList (lex Lib.itoa 0 0 s.data.toList) q pre) hq ht => h.no hq ht
    have hyes := fun q pre (h : AllRel s.data.toList (lex Lib.itoa 0 0 s.data.toList) q pre) t hq ht => h.yes (t := t) hq ht
    have hfin := fun q pre (h : AllRel s.data.toList (lex Lib.itoa 0 0 s.data.toList) q pre) hq => h.fin hq
    have h0 := hbl 0 (by omega)
    simp only [List.drop_zero, Nat.zero_add, Int.cast_ofNat_Int] at h0
    generalize lex Lib.itoa 0 0 s.data.toList = X at *
    generalize s.data.toList = L at *
    generalize hW0 : ws false L = W0 at *
    have HSL := Lib.hid hsl
    have HBL := Lib.hid hbl
    have HON := Lib.hid hone
    have HWD := Lib.hid hwd
    have HNO := Lib.hid hno
    have HYE := Lib.hid hyes
    have HFI := Lib.hid hfin
    have HST := Lib.hid hst
    have HZ := Lib.hid h0
    clear hA hsl hbl hone hwd hno hyes hfin hst hW0 h0
    have h5' : s.size ≤ 5000 := by omega
    go_enter Tryd.func22, Tryd.ntmps22
    go_wp2_with fail
    refine (HZ.out _).mono ?_
    rintro e w1 ⟨rfl, rfl⟩
    go_wp2
    go_loopw [5, 6] (fun v i wr => ∃ (q : Nat) (pre : List T), i = .int .i64 q ∧ q ≤ s.size ∧ pre.length ≤ 1000 ∧ wr.ownsRow w.heap.size 45 4 v pre.length (tv pre) ∧ AllRel L X q pre ∧ Below w.heap.size w wr) (fun _ i _ => s.size - (intOf i).toNat)
    case atStart => exact ⟨W0, [], rfl, hwl, by simp, World.ownsRow_nil _ _ _ _, HST.out, Below.refl _ _⟩
    case round =>
      obtain ⟨q, pre, rfl, hq, hp1, hown, hrel, hb⟩ := hrel
      have HR := Lib.hid hrel
      clear hrel
      by_cases h1 : q < s.size
      · have hnn := HNO.out q pre HR.out (by rw [HSL.out]; exact h1)
        have hyy := fun t => HYE.out q pre HR.out t (by rw [HSL.out]; exact h1)
        rw [HSL.out] at hyy
        have HO := Lib.hid (HON.out q h1)
        generalize tk Lib.itoa (L.drop q) = O at *
        cases O with
        | none =>
          have HAN := Lib.hid (ans_none (n := s.size) (hnn rfl))
          clear hnn hyy hown
          go_wp2_with fail
          refine (HO.out _).mono ?_
          rintro e w2 ⟨⟨k, n, z, x, rfl⟩, hb2⟩
          go_wp2
          go_ret3
          exact AllPost.no HAN.out (below_lit (below_then hb hb2) _)
        | some t =>
          obtain ⟨hm, hlt, heq⟩ := hyy t rfl
          obtain ⟨A, c, rfl, -⟩ := SlT.of_own hown
          clear hnn hyy
          by_cases hk : pre.length = 1000
          · have HAN := Lib.hid (ans_long (n := s.size) (heq hk))
            clear hlt heq hown
            have d1 : decide ((1000 : Int) ≤ (pre.length : Int)) = true := by rw [decide_eq_true_eq]; omega
            go_wp2_with fail
            refine (HO.out _).mono ?_
            rintro e w2 ⟨rfl, hb2⟩
            unfold TokV
            go_wp2
            go_ret3
            exact AllPost.no HAN.out (below_lit (below_then hb hb2) _)
          · have HN := Lib.hid (hlt (by omega))
            have d1 : decide ((1000 : Int) ≤ (pre.length : Int)) = false := by rw [decide_eq_false_iff_not]; omega
            have hb7 := fun w => HBL.out (q + t.more + 1) hm w
            have hwd := HWD.out (q + t.more + 1)
            obtain ⟨kind, text, num, more⟩ := t
            simp only at hm hwd HN hb7
            have E1 : Hid (tv pre ++ tv [⟨kind, text, num, q⟩] = tv (pre ++ [⟨kind, text, num, q⟩])) := Lib.hid (by rw [tv_append])
            have E2 : Hid (pre.length + 1 = (pre ++ [(⟨kind, text, num, q⟩ : T)]).length) := Lib.hid (by simp)
            have HB7 := Lib.hid hb7
            clear hlt heq hb7
            go_wp2_with fail
            refine (HO.out _).mono ?_
            rintro e w2 ⟨rfl, hb2⟩
            unfold TokV
            have hown2 := own_below hown hb2
            have hb3 := below_then hb hb2
            simp only
            have hqq : q < q + more + 1 := by omega
            generalize q + more + 1 = q' at *
            go_wp2_with (at_builtin; refine wpList_app_sl rfl _ _ 39 rfl w.heap.size 45 i0 _ 4 40 Tryd.underlying39 hi hz0 hz1 hz2 rfl (by omega) (.slice A pre.length c) pre.length (tv pre) rfl ((hown2.alloc _).alloc _) _ 1 1 (tv [⟨kind, text, num, q⟩]) rfl (lit_tok2 _ _ ⟨kind, text, num, q⟩) (tv_one _) (by unfold maxLen; omega) (by omega) (by have := hb3.size; simp; omega) ?_; intro v3 w3 hown3 hg3; have hb4 : Below w.heap.size w w3 := (below_lit (below_lit hb3 _) _).grown hg3 (below_lit (below_lit hb3 _) _).size (own_ge hown2); rw [E1.out, E2.out] at hown3)
            refine (HB7.out _).mono ?_
            rintro e w4 ⟨rfl, rfl⟩
            go_wp2
            exact ⟨⟨q' + ws false (L.drop q'), pre ++ [⟨kind, text, num, q⟩], rfl, by omega, by simp; omega, hown3, HN.out, hb4⟩, by simp [intOf]; omega⟩
      · have HF := Lib.hid (ans_end (n := s.size) (HFI.out q pre HR.out (by rw [HSL.out]; omega)))
        go_wp2
        go_ret3
        obtain ⟨f1, f2, f3⟩ := HF.out
        rw [f1, f2, f3]
        exact AllPost.mk hown hb

set_option maxRecDepth 1000000 in
set_option maxHeartbeats 2000000 in
theorem all_any (s : ByteArray) (hs : s.size ≤ 1000000) (w : World) (LV : Laid w) :
    Calls Tryd.prog 20 #[.string s] w fun e w' => AllPost (allT Lib.itoa s.data.toList) (allAt Lib.itoa s.data.toList) (allE Lib.itoa s.data.toList) w e w' := by
  obtain ⟨i0, hi, hz0, hz1, hz2⟩ := info_parts infoToks
  have hsl : s.data.toList.length = s.size := by simp
  by_cases h5 : 5000 < s.size
  · have HA := Lib.hid (show allT Lib.itoa s.data.toList = [] ∧ allAt Lib.itoa s.data.toList = 0 ∧ allE Lib.itoa s.data.toList = 2 by
      simp only [allT, allAt, allE, hsl, if_pos h5, and_self])
    generalize allT Lib.itoa s.data.toList = X1 at *
    generalize allAt Lib.itoa s.data.toList = X2 at *
    generalize allE Lib.itoa s.data.toList = X3 at *
    clear hsl
    go_enter Tryd.func20, Tryd.ntmps20
    go_wp2_with fail
    go_ret3
    exact AllPost.no HA.out (Below.refl _ _)
  · have hA : allT Lib.itoa s.data.toList = ansT (lex Lib.itoa 0 0 s.data.toList) ∧ allAt Lib.itoa s.data.toList = ansAt s.size (lex Lib.itoa 0 0 s.data.toList) ∧ allE Lib.itoa s.data.toList = ansE (lex Lib.itoa 0 0 s.data.toList) := by
      simp only [allT, allAt, allE, hsl, if_neg h5, and_self]
    rw [hA.1, hA.2.1, hA.2.2]
    have hst := AllRel.start s.data.toList
    have hwl := ws_le false s.data.toList
    rw [hsl] at hwl
    have hbl := fun k hk w => skip_any s hs k hk w
    have hrd := fun k c (hc : s.data.toList[k]? = some c) f (hf : readF c = some f) w L => read_any s hs k c hc f hf w L
    have hsg := at_list s
    have htn := fun k c (hc : s.data.toList[k]? = some c) (hf : readF c = none) => tk_none (drop_cons hc) hf
    have hwd : ∀ k, ws false (s.data.toList.drop k) ≤ s.size - k := fun k => by
      have := ws_le false (s.data.toList.drop k)
      rwa [List.length_drop, hsl] at this
    have hno := fun q pre (h : AllRel s.data.toList (lex Lib.itoa 0 0 s.data.toList) q pre) hq ht => h.no hq ht
    have hyes := fun q pre (h : AllRel s.data.toList (lex Lib.itoa 0 0 s.data.toList) q pre) t hq ht => h.yes (t := t) hq ht
    have hfin := fun q pre (h : AllRel s.data.toList (lex Lib.itoa 0 0 s.data.toList) q pre) hq => h.fin hq
    have h0 := hbl 0 (by omega)
    simp only [List.drop_zero, Nat.zero_add, Int.cast_ofNat_Int] at h0
    generalize lex Lib.itoa 0 0 s.data.toList = X at *
    generalize s.data.toList = L at *
    generalize hW0 : ws false L = W0 at *
    have HSL := Lib.hid hsl
    have HBL := Lib.hid hbl
    have HRD := Lib.hid hrd
    have HSG := Lib.hid hsg
    have HTN := Lib.hid htn
    have HWD := Lib.hid hwd
    have HNO := Lib.hid hno
    have HYE := Lib.hid hyes
    have HFI := Lib.hid hfin
    have HST := Lib.hid hst
    have HZ := Lib.hid h0
    clear hA hsl hbl hrd hsg htn hwd hno hyes hfin hst hW0 h0
    have h5' : s.size ≤ 5000 := by omega
    go_enter Tryd.func20, Tryd.ntmps20
    go_wp2_with fail
    refine (readers_any _).mono ?_
    rintro e w0 ⟨b, rfl, hmap, hb0⟩
    go_wp2_with fail
    refine (HZ.out _).mono ?_
    rintro e w1 ⟨rfl, rfl⟩
    go_wp2
    go_loopw [7, 8] (fun v i wr => ∃ (q : Nat) (pre : List T), i = .int .i64 q ∧ q ≤ s.size ∧ pre.length ≤ 1000 ∧ wr.ownsRow w0.heap.size 45 4 v pre.length (tv pre) ∧ AllRel L X q pre ∧ Below w0.heap.size w0 wr) (fun _ i _ => s.size - (intOf i).toNat)
    case atStart => exact ⟨W0, [], rfl, hwl, by simp, World.ownsRow_nil _ _ _ _, HST.out, Below.refl _ _⟩
    case round =>
      obtain ⟨q, pre, rfl, hq, hp1, hown, hrel, hb⟩ := hrel
      have HR := Lib.hid hrel
      clear hrel
      have hbw := below_then hb0 hb
      by_cases h1 : q < s.size
      · have HX := Lib.hid (HSG.out q h1)
        have hnn := HNO.out q pre HR.out (by rw [HSL.out]; exact h1)
        have hyy := fun t => HYE.out q pre HR.out t (by rw [HSL.out]; exact h1)
        rw [HSL.out] at hyy
        obtain ⟨fvv, hlook, hfv⟩ := (hmap.on hb).look s[q]
        cases hf : readF s[q] with
        | none =>
          have HAN := Lib.hid (ans_none (n := s.size) (hnn (HTN.out q _ HX.out hf)))
          rw [hf] at hlook
          simp only [Option.isSome_none] at hlook
          clear hnn hyy hown hfv hf
          go_wp2
          go_ret3
          exact AllPost.no HAN.out hbw
        | some f =>
          obtain rfl := hfv f hf
          have hent := read_enters _ f hf
          rw [hf] at hlook
          simp only [Option.isSome_some] at hlook
          have HO := Lib.hid (HRD.out q _ HX.out f hf)
          clear hfv hf
          generalize tk Lib.itoa (L.drop q) = O at *
          unfold fv at hlook
          cases O with
          | none =>
            have HAN := Lib.hid (ans_none (n := s.size) (hnn rfl))
            clear hnn hyy hown
            go_wp2_with fail
            refine (HO.out _ (LV.on hbw)).mono ?_
            rintro e w2 ⟨rfl, hb2⟩
            unfold SV TokV
            go_wp2
            go_ret3
            exact AllPost.no HAN.out (below_lit (below_then hbw hb2) _)
          | some t =>
            obtain ⟨hm, hlt, heq⟩ := hyy t rfl
            obtain ⟨A, c, rfl, -⟩ := SlT.of_own hown
            clear hnn hyy
            by_cases hk : pre.length = 1000
            · have HAN := Lib.hid (ans_long (n := s.size) (heq hk))
              clear hlt heq hown
              have d1 : ((pre.length : Int) == 1000) = true := by rw [beq_iff_eq]; omega
              go_wp2_with fail
              refine (HO.out _ (LV.on hbw)).mono ?_
              rintro e w2 ⟨rfl, hb2⟩
              unfold SV TokV
              go_wp2
              go_ret3
              exact AllPost.no HAN.out (below_lit (below_then hbw hb2) _)
            · have HN := Lib.hid (hlt (by omega))
              have d1 : ((pre.length : Int) == 1000) = false := by rw [beq_eq_false_iff_ne]; omega
              have hb7 := fun w => HBL.out (q + t.more + 1) hm w
              have hwd := HWD.out (q + t.more + 1)
              obtain ⟨kind, text, num, more⟩ := t
              simp only at hm hwd HN hb7
              have E1 : Hid (tv pre ++ tv [⟨kind, text, num, q⟩] = tv (pre ++ [⟨kind, text, num, q⟩])) := Lib.hid (by rw [tv_append])
              have E2 : Hid (pre.length + 1 = (pre ++ [(⟨kind, text, num, q⟩ : T)]).length) := Lib.hid (by simp)
              have HB7 := Lib.hid hb7
              clear hlt heq hb7
              have hsz0 := hb.size
              go_wp2_with fail
              refine (HO.out _ (LV.on hbw)).mono ?_
              rintro e w2 ⟨rfl, hb2⟩
              unfold SV TokV
              have hown2 := own_below hown hb2
              have hb3 := below_then hb hb2
              simp only
              have hqq : q < q + more + 1 := by omega
              generalize q + more + 1 = q' at *
              go_wp2_with (at_builtin; refine wpList_app_sl rfl _ _ 39 rfl w0.heap.size 45 i0 _ 4 40 Tryd.underlying39 hi hz0 hz1 hz2 rfl (by omega) (.slice A pre.length c) pre.length (tv pre) rfl ((hown2.alloc _).alloc _) _ 1 1 (tv [⟨kind, text, num, q⟩]) rfl (lit_tok2 _ _ ⟨kind, text, num, q⟩) (tv_one _) (by unfold maxLen; omega) (by omega) (by have := hb3.size; simp; omega) ?_; intro v3 w3 hown3 hg3; have hb4 : Below w0.heap.size w0 w3 := (below_lit (below_lit hb3 _) _).grown hg3 (below_lit (below_lit hb3 _) _).size (own_ge hown2); rw [E1.out, E2.out] at hown3)
              refine (HB7.out _).mono ?_
              rintro e w4 ⟨rfl, rfl⟩
              go_wp2
              exact ⟨⟨q' + ws false (L.drop q'), pre ++ [⟨kind, text, num, q⟩], rfl, by omega, by simp; omega, hown3, HN.out, hb4⟩, by simp [intOf]; omega⟩
      · have HF := Lib.hid (ans_end (n := s.size) (HFI.out q pre HR.out (by rw [HSL.out]; omega)))
        go_wp2
        go_ret3
        obtain ⟨f1, f2, f3⟩ := HF.out
        rw [f1, f2, f3]
        exact AllPost.mk (own_mono hown hb0.size) hbw
end Go.Proofs.YtceomdbahiimlaaDoor
