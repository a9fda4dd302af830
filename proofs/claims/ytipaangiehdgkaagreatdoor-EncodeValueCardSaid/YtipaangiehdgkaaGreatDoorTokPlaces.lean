/-
  Numbers of kinds, their bits, and back: on integers alone.
-/
import Derived.Test.YtipaangiehdgkaaGreatDoorTrIn
import Derived.Test.YtipaangiehdgkaaGreatDoorTagKnown
import Derived.Test.YtipaangiehdgkaaGreatDoorRecPut
import Derived.Test.YtipaangiehdgkaaGreatDoorBytes
import Derived.Deep.RegionHeldLaw
import Derived.Deep.RegionLaw
import Derived.Deep.RegionHeld3
import Derived.Lib.AppendZeros
import Derived.Lib.ItoaNum
import Derived.Lib.ParseIntBTie
import Derived.Lib.AtoiAllCases
namespace Go.Proofs.YtipaangiehdgkaaGreatDoor
set_option maxRecDepth 100000

theorem seven_cnt {k : Int} (h : cnt k = true) : k = 0 ∨ k = 1 ∨ k = 2 ∨ k = 3 ∨ k = 4 ∨ k = 5 ∨ k = 6 := by
  simp [cnt] at h
  exact seven h
theorem fits_cnt {k n : Int} (h : fitsB k n = true) : cnt k = true := by
  by_cases hk : 0 ≤ k ∧ k < 7
  · simp [cnt, hk]
  · unfold fitsB at h
    rw [if_neg (by omega), if_neg (by omega), if_neg (by omega), if_neg (by omega), if_neg (by omega), if_neg (by omega), if_neg (by omega)] at h
    cases h
theorem bitsI_bound (k : Int) {n : Int} (h0 : -9223372036854775808 ≤ n) (h1 : n ≤ 9223372036854775807) : 0 ≤ bitsI k n ∧ bitsI k n < 18446744073709551616 := by
  unfold bitsI zigI U64
  repeat' split
  all_goals omega
end Go.Proofs.YtipaangiehdgkaaGreatDoor
/-
  Messages as bytes, by plain functions: what a value, a field and a message are as bytes, and how long that is.
-/
namespace Go.Proofs.YtipaangiehdgkaaGreatDoor.T12
set_option maxRecDepth 100000

open Go.Proofs.YtipaangiehdgkaaGreatDoor.T9 Go.Proofs.YtipaangiehdgkaaGreatDoor.T4

/-- A run's bytes, as a record. -/
def runL (no : Int) (l : List UInt8) : List UInt8 := recL no 2 0 l
/-- A number's bytes, as a record. -/
def encN (kind no n : Int) : List UInt8 := recL no (wireI kind) (bitsI kind n).toNat []
def bareN (kind n : Int) : List UInt8 := (encN kind 1 n).drop 1
/-- A value's bytes, as a record; G: a message's bytes. -/
def valL (G : Int → Mg → List UInt8) (kind ref no : Int) (v : Vl') : List UInt8 :=
  if kind = 9 then runL no (G ref (v.M.headD (.mk []))) else if kind = 7 ∨ kind = 8 then runL no v.s else encN kind no v.n
def entL (G : Int → Mg → List UInt8) (f : Df) (p : Vl' × Vl') : List UInt8 := runL f.no (valL G f.key 0 1 p.1 ++ valL G f.kind f.ref 2 p.2)
def fieldL (G : Int → Mg → List UInt8) (f : Df) (a : So) : List UInt8 :=
  if f.key = -1 then (if f.rep && cnt f.kind then runL f.no (a.V.map fun v => bareN f.kind v.n).flatten else (a.V.map (valL G f.kind f.ref f.no)).flatten)
  else ((a.K.zip a.V).map (entL G f)).flatten
def slotL (fd : Int → Option Df) (G : Int → Mg → List UInt8) (a : So) : List UInt8 := match fd a.no with | none => [] | some f => fieldL G f a
def encG (s : Sc) (G : Int → Mg → List UInt8) (m : Int) (x : Mg) : List UInt8 := (x.F.map (slotL (byS s m) G)).flatten
/-- A message's bytes, within so many levels. -/
def encB (s : Sc) : Nat → Int → Mg → List UInt8
  | 0 => fun _ _ => []
  | d + 1 => encG s (encB s d)

/-! ### How many bytes all texts have -/

def Mg.txt (m : Mg) : Nat := sm (m.F.attach.map fun ⟨s, hs⟩ => sm (s.K.attach.map fun ⟨v, hv⟩ => v.s.length + sm (v.M.attach.map fun ⟨x, hx⟩ => Mg.txt x)) + sm (s.V.attach.map fun ⟨v, hv⟩ => v.s.length + sm (v.M.attach.map fun ⟨x, hx⟩ => Mg.txt x)))
termination_by SizeOf.sizeOf m
decreasing_by
  · exact Mg.sz hs (.inl hv) hx
  · exact Mg.sz hs (.inr hv) hx
def tV (v : Vl') : Nat := v.s.length + sm (v.M.map Mg.txt)
def tS (s : So) : Nat := sm (s.K.map tV) + sm (s.V.map tV)
theorem Mg.txt_eq (m : Mg) : Mg.txt m = sm (m.F.map tS) := by
  rw [Mg.txt, att m.F tS]
  rintro ⟨s, hs⟩
  show _ + _ = tS s
  unfold tS
  rw [att s.K tV, att s.V tV]
  · rintro ⟨v, hv⟩
    exact congrArg (v.s.length + ·) (congrArg sm (att v.M Mg.txt _ fun x => rfl))
  · rintro ⟨v, hv⟩
    exact congrArg (v.s.length + ·) (congrArg sm (att v.M Mg.txt _ fun x => rfl))

/-! ### How long the bytes are -/

theorem flat_len (l : List (List UInt8)) : l.flatten.length = sm (l.map List.length) := by
  induction l with
  | nil => rfl
  | cons x l ih => rw [List.flatten_cons, List.length_append, ih]; rfl
theorem rest_len (wire : Int) (num : Nat) (run : List UInt8) (hn : num < 18446744073709551616) (hr : run.length < 18446744073709551616) : (restL wire num run).length ≤ 10 + run.length := by
  unfold restL
  have h1 := vput_len10 hn
  have h2 := vput_len10 hr
  split
  · rw [List.length_append]; omega
  · split
    · rw [fixb_length]; omega
    · split
      · rw [fixb_length]; omega
      · omega
theorem rec_len (no wire : Int) (num : Nat) (run : List UInt8) (hn : num < 18446744073709551616) (hr : run.length < 18446744073709551616) : (recL no wire num run).length ≤ 15 + run.length := by
  unfold recL
  split
  · have := putL_le5 (no := no) (wire := wire)
    have := rest_len wire num run hn hr
    rw [List.length_append]; omega
  · simp
theorem run_len (no : Int) (l : List UInt8) (h : l.length < 18446744073709551616) : (runL no l).length ≤ 15 + l.length := rec_len _ _ _ _ (by omega) h
theorem bits_nat (k n : Int) (h : inI n) : (bitsI k n).toNat < 18446744073709551616 := by
  have := bitsI_bound k (n := n) h.1 h.2
  omega
theorem encN_len (kind no n : Int) (h : inI n) : (encN kind no n).length ≤ 15 := rec_len _ _ _ [] (bits_nat kind n h) (by simp)
theorem sm_mem {α : Type} {l : List α} {g : α → Nat} {x : α} (h : x ∈ l) : g x ≤ sm (l.map g) := le_sm (List.mem_map_of_mem h)
theorem zip_le (K V : List Vl') (f g : Vl' → Nat) : sm ((K.zip V).map fun p => f p.1 + g p.2) ≤ sm (K.map f) + sm (V.map g) := by
  induction K generalizing V with
  | nil => simp [sm]
  | cons k K ih =>
    cases V with
    | nil => simp [sm]
    | cons v V =>
      have := ih V
      simp only [List.zip_cons_cons, List.map_cons, sm]
      omega
def LenOk (G : Int → Mg → List UInt8) : Prop := ∀ m x, MIn x → 40 * x.cnt + Mg.txt x ≤ 70368744177664 → (G m x).length ≤ 40 * x.cnt + Mg.txt x
theorem val_len {G : Int → Mg → List UInt8} (H : LenOk G) (kind ref no : Int) (v : Vl') (hi : VIn v) (h : 40 * cV v + tV v ≤ 70368744177664) : (valL G kind ref no v).length + 20 ≤ 40 * cV v + tV v := by
  have hs : v.s.length ≤ tV v := by unfold tV; omega
  have hc : 1 ≤ cV v := by unfold cV; omega
  unfold valL
  split
  · obtain ⟨n, s, M⟩ := v
    cases M with
    | nil =>
      have h0 := H ref (.mk []) (.of fun s hs => by cases hs) (by rw [Mg.cnt_eq, Mg.txt_eq]; simp [Mg.F, sm])
      have h1 := run_len no (G ref (.mk [])) (by rw [Mg.cnt_eq, Mg.txt_eq] at h0; simp [Mg.F, sm] at h0; rw [h0]; simp)
      rw [Mg.cnt_eq, Mg.txt_eq] at h0
      simp [Mg.F, sm] at h0
      show (runL no (G ref (Mg.mk []))).length + 20 ≤ _
      rw [h0] at h1 ⊢
      simp at h1
      omega
    | cons x M =>
      have e1 : cV (⟨n, s, x :: M⟩ : Vl') = 1 + ((1 + x.cnt) + sm (M.map fun x => 1 + x.cnt)) := rfl
      have e2 : tV (⟨n, s, x :: M⟩ : Vl') = s.length + (Mg.txt x + sm (M.map Mg.txt)) := rfl
      have h0 := H ref x (hi.2 x (by simp)) (by omega)
      have h1 := run_len no (G ref x) (by omega)
      show (runL no (G ref x)).length + 20 ≤ _
      omega
  · split
    · have := run_len no v.s (by omega)
      omega
    · have := encN_len kind no v.n hi.1.1
      omega
theorem fl_len (c t : Nat) {α : Type} (l : List α) (e : α → List UInt8) (f g : α → Nat) (hc : sm (l.map f) ≤ c) (ht : sm (l.map g) ≤ t) (h : ∀ a ∈ l, (e a).length ≤ 40 * f a + g a) : (l.map e).flatten.length ≤ 40 * c + t := by
  rw [flat_len, List.map_map]
  have h1 : sm (l.map (List.length ∘ e)) ≤ sm (l.map fun a => 40 * f a + g a) := sm_mono h
  have h2 : sm (l.map fun a => 40 * f a + g a) = sm (l.map fun a => 40 * f a) + sm (l.map g) := sm_add l _ _
  have h3 : ∀ l : List α, sm (l.map fun a => 40 * f a) = 40 * sm (l.map f) := fun l => by
    induction l with
    | nil => rfl
    | cons x l ih => simp only [List.map_cons, sm, ih]; omega
  rw [h3] at h2
  omega
theorem field_len {G : Int → Mg → List UInt8} (H : LenOk G) (f : Df) (a : So) (hi : SIn a) (h : 40 * cS a + tS a ≤ 70368744177664) : (fieldL G f a).length ≤ 40 * cS a + tS a := by
  have ec : cS a = 1 + (sm (a.K.map cV) + sm (a.V.map cV)) := rfl
  have et : tS a = sm (a.K.map tV) + sm (a.V.map tV) := rfl
  have hV : ∀ v ∈ a.V, 40 * cV v + tV v ≤ 70368744177664 := fun v hv => by
    have h1 := sm_mem (g := cV) hv
    have h2 := sm_mem (g := tV) hv
    omega
  have hK : ∀ v ∈ a.K, 40 * cV v + tV v ≤ 70368744177664 := fun v hv => by
    have h1 := sm_mem (g := cV) hv
    have h2 := sm_mem (g := tV) hv
    omega
  unfold fieldL
  split
  · split
    · have h1 : (a.V.map fun v => bareN f.kind v.n).flatten.length ≤ 40 * sm (a.V.map cV) + 0 := fl_len _ 0 a.V _ cV (fun _ => 0) (Nat.le_refl _) (by
          have : ∀ l : List Vl', sm (l.map fun _ => 0) = 0 := fun l => by induction l with | nil => rfl | cons x l ih => simp only [List.map_cons, sm, ih]
          rw [this]; exact Nat.le_refl 0) fun v hv => by
        have := encN_len f.kind 1 v.n (hi.2 v (.inr hv)).1.1
        have hc : 1 ≤ cV v := by unfold cV; omega
        unfold bareN
        rw [List.length_drop]
        omega
      have := run_len f.no _ (show (a.V.map fun v => bareN f.kind v.n).flatten.length < 18446744073709551616 by omega)
      omega
    · have := fl_len _ _ a.V (valL G f.kind f.ref f.no) cV tV (Nat.le_refl _) (Nat.le_refl _) fun v hv => by
        have := val_len H f.kind f.ref f.no v (hi.2 v (.inr hv)) (hV v hv)
        omega
      omega
  · have := fl_len _ _ (a.K.zip a.V) (entL G f) (fun p => cV p.1 + cV p.2) (fun p => tV p.1 + tV p.2) (zip_le a.K a.V cV cV) (zip_le a.K a.V tV tV) fun p hp => by
      obtain ⟨k, v⟩ := p
      have hk := List.of_mem_zip hp
      have h1 := val_len H f.key 0 1 k (hi.2 k (.inl hk.1)) (hK k hk.1)
      have h2 := val_len H f.kind f.ref 2 v (hi.2 v (.inr hk.2)) (hV v hk.2)
      have h3 := hK k hk.1
      have h4 := hV v hk.2
      have := run_len f.no (valL G f.key 0 1 k ++ valL G f.kind f.ref 2 v) (by rw [List.length_append]; omega)
      rw [List.length_append] at this
      show (runL f.no (valL G f.key 0 1 k ++ valL G f.kind f.ref 2 v)).length ≤ 40 * (cV k + cV v) + (tV k + tV v)
      omega
    omega
theorem enc_len (s : Sc) : ∀ d, LenOk (encB s d)
  | 0 => fun _ _ _ _ => Nat.zero_le _
  | d + 1 => fun m x hi h => by
    rw [Mg.cnt_eq, Mg.txt_eq] at h ⊢
    refine fl_len _ _ x.F (slotL (byS s m) (encB s d)) cS tS (Nat.le_refl _) (Nat.le_refl _) fun a ha => ?_
    have h1 := sm_mem (g := cS) ha
    have h2 := sm_mem (g := tS) ha
    unfold slotL
    split
    · simp
    · exact field_len (enc_len s d) _ a (hi.slot ha) (by omega)
end Go.Proofs.YtipaangiehdgkaaGreatDoor.T12
/-
  What is normal has no longer texts; of a normal message each slot alone is normal, and its bytes are some.
-/
namespace Go.Proofs.YtipaangiehdgkaaGreatDoor.T12
set_option maxRecDepth 100000

open Go.Proofs.YtipaangiehdgkaaGreatDoor.T9 Go.Proofs.YtipaangiehdgkaaGreatDoor.T4

def TxtOk (G : Int → Mg → Bool) (N : Int → Mg → Mg) : Prop := ∀ r x, G r x = true → Mg.txt (N r x) ≤ Mg.txt x
theorem txt_val {G : Int → Mg → Bool} {N : Int → Mg → Mg} (g : TxtOk G N) {kind ref : Int} {v : Vl'} (h : askG G kind ref v = true) : tV (norV N ref v) ≤ tV v := by
  by_cases h9 : kind = 9
  · subst h9
    obtain ⟨n, s, M⟩ := v
    obtain ⟨h1, h2, x, h3, hx⟩ := ask_nine h
    simp only at h1 h2 h3
    subst h1 h2 h3
    have := g _ _ hx
    simp only [tV, norV, List.map_cons, List.map_nil, sm]; omega
  · have hM := ask_of h h9
    obtain ⟨n, s, M⟩ := v
    simp only at hM
    subst hM
    exact Nat.le_refl _
theorem txt_slot {G : Int → Mg → Bool} {N : Int → Mg → Mg} (g : TxtOk G N) {f : Df} {a : So} (h : fillG G f a = true) : tS (norS N f a) ≤ tS a := by
  unfold fillG at h
  simp only [Bool.and_eq_true, List.all_eq_true] at h
  obtain ⟨h1, h2, h3⟩ := h
  have hv : ∀ v ∈ a.V, tV (norV N f.ref v) ≤ tV v := fun v hv => txt_val g (h3 v hv)
  unfold norS tS
  split
  · have e : sm ((a.V.map (norV N f.ref)).map tV) ≤ sm (a.V.map tV) := by
      rw [List.map_map]
      exact sm_mono hv
    show sm [] + sm ((a.V.map (norV N f.ref)).map tV) ≤ _
    simp only [sm]
    omega
  · rename_i hk
    unfold manyB at h1
    rw [if_neg hk] at h1
    exact meas_map (beq_iff_eq.1 h1) tV (fun v => by simp [tV, bare, sm]) hv
theorem txtN_step {s : Sc} {G : Int → Mg → Bool} {N : Int → Mg → Mg} (g : TxtOk G N) : TxtOk (isG s G) (norG s N) := by
  intro m x h
  unfold isG at h
  rw [Bool.and_eq_true] at h
  obtain ⟨h0, h⟩ := h
  have hno := slots_no h
  obtain ⟨h1, -, h3⟩ := slots_iff.1 h
  have slot : ∀ b ∈ (norG s N m x).F, ∃ a ∈ x.F, ∃ f, byS s m a.no = some f ∧ fillG G f a = true ∧ b = norS N f a := by
    intro b hb
    obtain ⟨a, ha, e⟩ := (mem_norF hno).1 hb
    obtain ⟨f, hf, ht, rfl⟩ := norO_some e
    obtain ⟨f', hf', gs⟩ := h1 a ha
    rw [hf] at hf'
    obtain rfl := Option.some.inj hf'
    exact ⟨a, ha, f, hf, gs, rfl⟩
  rw [Mg.txt_eq, Mg.txt_eq]
  refine sm_inj _ _ (fun b => (x.F.find? fun s => s.no == b.no).getD b) _ _ (fun b hb => ?_) ?_
  · obtain ⟨a, ha, f, hf, gs, rfl⟩ := slot b hb
    simp only [norS_no, find_no hno ha, Option.getD_some]
    exact ⟨ha, txt_slot g gs⟩
  · refine List.Pairwise.imp_of_mem (fun {b c} hb hc hbc => ?_) (rise_norF (byS s m) N x.F)
    obtain ⟨a, ha, f, hf, gs, rfl⟩ := slot b hb
    obtain ⟨a', ha', f', hf', gs', rfl⟩ := slot c hc
    simp only [norS_no, find_no hno ha, find_no hno ha', Option.getD_some]
    intro e
    subst e
    simp [ltNo, norS_no] at hbc
theorem nor_txt (s : Sc) : ∀ d, TxtOk (isB s d) (norB s d)
  | 0 => fun _ _ h => by cases h
  | d + 1 => txtN_step (nor_txt s d)

/-! ### Each slot of a normal message, alone -/

theorem enc_alone (s : Sc) (m : Int) (a : So) : encB s 64 m (.mk [a]) = slotL (byS s m) (encB s 63) a := by
  show ([a].map (slotL (byS s m) (encB s 63))).flatten = _
  simp
/-! ### No field that is there is without bytes -/

theorem rec_ne {no wire : Int} {num : Nat} {run : List UInt8} (h : putB no wire = true) : 2 ≤ (recL no wire num run).length := by
  have h1 : ∀ n, 1 ≤ (vput n).length := fun n => by rw [vput_length]; unfold vlong; split <;> omega
  rw [recL_yes h, putL_yes h, List.length_append]
  have h2 := h1 (putN no wire)
  have h3 : 1 ≤ (restL wire num run).length := by
    unfold restL
    split
    · have := h1 run.length
      rw [List.length_append]; omega
    · split
      · rw [fixb_length]; omega
      · split
        · rw [fixb_length]; omega
        · exact h1 num
  omega
theorem wire_known {k : Int} (h : cnt k = true) : knownB (wireI k) = true := by
  rcases seven_cnt h with rfl | rfl | rfl | rfl | rfl | rfl | rfl <;> rfl
theorem put_run {no : Int} (h : 1 ≤ no ∧ no ≤ 536870911) : putB no 2 = true := by unfold putB knownB; simp [h]
theorem put_num {no k : Int} (h : 1 ≤ no ∧ no ≤ 536870911) (hk : cnt k = true) : putB no (wireI k) = true := by unfold putB; rw [wire_known hk]; simp [h]
theorem ask_cnt {G : Int → Mg → Bool} {kind ref : Int} {v : Vl'} (h : askG G kind ref v = true) (h7 : kind ≠ 7) (h8 : kind ≠ 8) (h9 : kind ≠ 9) : cnt kind = true := by
  unfold askG at h
  rw [if_neg h7, if_neg h8, if_neg h9] at h
  simp only [Bool.and_eq_true] at h
  exact fits_cnt h.1
theorem fno_ok {s : Sc} (h : ScMay s) {m no : Int} {f : Df} (hf : byS s m no = some f) : (1 ≤ f.no ∧ f.no ≤ 536870911) ∧ f.no = no := by
  unfold byS msgAt at hf
  split at hf
  · simp at hf
  · cases hm : s.M[m.toNat]? with
    | none => rw [hm] at hf; simp at hf
    | some d =>
      rw [hm] at hf
      simp only [Option.bind_some] at hf
      have h1 := ((h.M d (List.mem_of_getElem? hm)).each f (List.mem_of_find?_eq_some hf)).num
      have h2 := List.find?_some hf
      unfold numberB at h1
      simp only [Bool.and_eq_true, decide_eq_true_eq] at h1
      exact ⟨h1.1, by simpa using h2⟩
end Go.Proofs.YtipaangiehdgkaaGreatDoor.T12
/-
  How many bytes all texts have: the law's own texts.
-/
namespace Go.Proofs.YtipaangiehdgkaaGreatDoor.T12
set_option maxRecDepth 100000

open Go.RowKit

open Go.Proofs.YtipaangiehdgkaaGreatDoor.T9

theorem step_app_sl {P : Program} {w : World} {ops : Array Oper} {o : Oper} {a : Act} {K : Act → World → Prop} {Q : Exit → Act → World → Prop} {E : Prop}
    (hg : o.guard = none) (s x : Operand) (t : TypeId) (hop : o.op = .call { callee := .builtin .append, args := #[s, x], argTypes := #[t, t] })
    (base : Nat) (e : TypeId) (i : TypeInfo) (z : Value) (size bytes : Nat) (ht : P.underlying t = some (.slice e)) (hi : P.info? e = some i) (hz : i.zero = some z)
    (hsize : i.size = size) (hby : i.bytes = bytes) (hzs : z.cells.size = size) (hsz : 0 < size)
    (v : Value) (n : Nat) (xs : List Value) (hs : a.eval s = v) (hown : w.ownsRow base e size v n xs)
    (A : Option Addr) (m c : Nat) (news : List Value) (hx : a.eval x = .slice A m c) (hr : Sl w A m c size news) (h1 : ∀ u ∈ news, u.oneCell' = true)
    (h63 : n + m ≤ maxLen) (hbytes : (n + m) * bytes ≤ 140737488355328) (hbase : base ≤ w.heap.size)
    (h : ∀ v' w', w'.ownsRow base e size v' (n + m) (xs ++ news) → w.grownBy w' v.ownBlock → K (a.put o.dst v') w') :
    if Region.wanted o (yielded ops a.tmps) = true then Oper.wp P o a w K Q else E := by
  have key : ∃ v' w', (Builtin.append_ #[t, t] o.type #[v, .slice A m c]).run P w = .ok v' w' ∧ w'.ownsRow base e size v' (n + m) (xs ++ news) ∧ w.grownBy w' v.ownBlock := by
    cases A with
    | none =>
      obtain ⟨rfl, rfl, rfl⟩ := hr.none_len
      exact ⟨v, w, run_append_owned_none (P := P) w base t o.type e i size ht hi v n xs hown, by simpa using hown, World.grownBy.refl w _⟩
    | some ad =>
      obtain ⟨v', w', hrun, h2, h3, _⟩ := run_append_own (P := P) w base t o.type e i z size bytes ht hi hz hsize hby hzs hsz v n xs hown ad m c news hr.len (hr.cell ad rfl) h1 h63 hbytes hbase
      exact ⟨v', w', hrun, h2, h3⟩
  obtain ⟨v', w', hrun, h2, h3⟩ := key
  have hw : Region.wanted o (yielded ops a.tmps) = true := by simp [Region.wanted, hg]
  rw [if_pos hw]
  have hex : (execOp a.eval o).run P w = .ok (.value v') w' := by simp [execOp, hop, resolve, invoke, builtin, hs, hx, hrun, Result.andThen]
  unfold Oper.wp
  rw [hex]
  exact h v' w' h2 h3
def g12 (v : Vl') : Nat := sm (v.M.map Mg.txt)
theorem tV_g (v : Vl') : tV v = v.s.length + g12 v := rfl
theorem tS_split (s : So) : tS s = sm ((s.K ++ s.V).map tV) := by
  unfold tS
  rw [← sm_append, ← List.map_append]
theorem cnt_in {m : Mg} {s : So} {v : Vl'} {x : Mg} (hs : s ∈ m.F) (hv : v ∈ s.K ++ s.V) (hx : x ∈ v.M) : x.cnt ≤ m.cnt := by
  have h1 := cS_le hs
  have h2 := cV_le (List.mem_append.1 hv)
  have h3 := cnt_le hx
  omega
theorem txt_mem {m : Mg} {s : So} {v : Vl'} {x : Mg} (hs : s ∈ m.F) (hv : v ∈ s.K ++ s.V) (hx : x ∈ v.M) : Mg.txt x ≤ Mg.txt m := by
  have h1 := sm_mem (g := tS) hs
  have h2 := sm_mem (g := tV) hv
  have h3 := sm_mem (g := Mg.txt) hx
  rw [Mg.txt_eq m]
  rw [tS_split] at h1
  rw [tV_g] at h2
  unfold g12 at h2
  omega
/-- texts, of messages within so many levels. -/
def TxtH (B D : Nat) : Prop := ∀ (m : Mg) (u : Value) (w : World), B ≤ w.heap.size → MRd B w D m u → m.cnt ≤ 100000 → Mg.txt m ≤ 4611686018427387904 → Calls Tryz.prog 26 #[.agg #[u]] w fun e w' => e = .returned (.int .i64 (Mg.txt m : Nat)) ∧ Below w.heap.size w w'
set_option maxRecDepth 1000000 in
set_option maxHeartbeats 8000000 in
theorem txt_step {B D : Nat} (H : TxtH B D) : TxtH B (D + 1) := by
  rintro m u w hB ⟨u', hu, hl⟩ hcm htm
  simp only [List.cons.injEq, and_true] at hu
  subst hu
  obtain ⟨i0, hi, hz0, hz1, hz2⟩ := info_parts info_val
  obtain ⟨A, c, xs, rfl, hs, hbl, hr, hn⟩ := hl.open_
  have X1 := heap_alloc_new w (.cells #[.slice A m.F.length c] 36)
  have LBD := below_new w (.cells #[.slice A m.F.length c] 36)
  have HS := Lib.hid hs
  have HR := Lib.hid hr
  have HBB := Lib.hid hbl
  have HH := Lib.hid H
  have HTM := Lib.hid htm
  clear hs hr hl hbl H
  go_enter Tryz.func26, Tryz.ntmps26
  go_wp2
  obtain ⟨W0, hW0⟩ : ∃ W, W = w.alloc (.cells #[.slice A m.F.length c] 36) := ⟨_, rfl⟩
  rw [← hW0] at X1 LBD ⊢
  have hX := box_lt X1
  clear hW0
  have hsz : sm (m.F.map tS) ≤ 4611686018427387904 := by rw [← Mg.txt_eq]; exact htm
  go_loopw [3, 4, 5, 6, 7] (fun n i l k j wr => ∃ p : Nat, i = .int .i64 p ∧ p ≤ m.F.length ∧ n = .int .i64 ((sm ((m.F.take p).map tS) : Nat) : Int) ∧ Below W0.heap.size W0 wr) (fun _ i _ _ _ _ => m.F.length - (intOf i).toNat)
  case atStart => exact ⟨0, rfl, by omega, rfl, Below.refl _ _⟩
  case round =>
    obtain ⟨p, rfl, hp, rfl, hbw⟩ := hrel
    have g0 := bx1 (box_on X1 hbw)
    have HBW := Lib.hid (LBD.trans (hbw.mono LBD.size))
    by_cases hlt : p < m.F.length
    · obtain ⟨s, hs⟩ : ∃ s, m.F[p]? = some s := ⟨_, List.getElem?_eq_getElem hlt⟩
      obtain ⟨ad, x, y, z, rfl, hga, hcc, c0, c1, c2⟩ := row3 sAt.len (sl_low HS.out HBB.out (Lo.below HBW.out hB)) (HR.out.imp fun a cs h => SRd.low (Lo.below HBW.out hB) h) hs
      obtain ⟨u1, u2, hu, hlk, hlv⟩ := hcc
      simp only [List.cons.injEq, and_true] at hu
      obtain ⟨rfl, rfl, rfl⟩ := hu
      obtain ⟨AK, cK, xsK, rfl, hsK, hbK, hrK, hnK⟩ := hlk.open_
      obtain ⟨AV, cV_, xsV, rfl, hsV, hbV, hrV, hnV⟩ := hlv.open_
      have hadB : ad.block < B := HBB.out ad rfl (by omega)
      have hadX : (ad.add (p * 3)).block < W0.heap.size := by rw [add_same_block]; omega
      have hcs := cS_le (List.mem_of_getElem? hs)
      have hcl := cS_len (s := s)
      have h11 := Rows.one vAt.one hrK
      have h12_ := Rows.one vAt.one hrV
      have HSK := Lib.hid hsK
      have HSV := Lib.hid hsV
      have HRK := Lib.hid (And.intro hrK hrV)
      have HBK := Lib.hid (And.intro hbK hbV)
      have hst := sm_take_next tS hs
      have hle := sm_take_le m.F (p + 1) tS
      rw [tS_split] at hst
      have HCN := Lib.hid (fun v x (hv : v ∈ s.K ++ s.V) (hx : x ∈ v.M) => Nat.le_trans (cnt_in (List.mem_of_getElem? hs) hv hx) hcm)
      have HTN := Lib.hid (fun v x (hv : v ∈ s.K ++ s.V) (hx : x ∈ v.M) => Nat.le_trans (txt_mem (List.mem_of_getElem? hs) hv hx) HTM.out)
      obtain ⟨N, hN⟩ : ∃ N, N = sm ((m.F.take p).map tS) := ⟨_, rfl⟩
      have hN' : sm (List.take p (List.map tS m.F)) = N := by rw [hN, List.map_take]
      rw [← hN] at hst
      (try rw [hN']); (try rw [← hN])
      have i1 : (0 : Int) ≤ (p : Int) := by omega
      have i2 : (p : Int) < (m.F.length : Int) := by omega
      clear hN hN' hlk hlv hs hsK hbK hrK hsV hbV hrV c0
      go_wp2_with fail
      refine wp_region_held_drew (S := (fun w' => w'.cell? ⟨w.heap.size, 0, none⟩ = some (.slice (some ad) m.F.length c) ∧ w'.cell? ⟨(ad.add (p * 3)).block, (ad.add (p * 3)).off + 1, none⟩ = some (.slice AK s.K.length cK) ∧ w'.cell? ⟨(ad.add (p * 3)).block, (ad.add (p * 3)).off + 2, none⟩ = some (.slice AV s.V.length cV_))) (by kernel_rfl) (⟨g0, c1, c2⟩) (fun hHeld => ?_)
      refine wpAnyH_take (i := 0) (oi := { dst := some 15, op := Go.Op.fieldAddr 36 (Go.Operand.tmp 1) 0, type := 0, pos := "law.go:33", after := #[], guard := none }) (v := ?_) rfl (by kernel_rfl) (by kernel_rfl) (by kernel_rfl) (fun _ _ _ h => h) (Or.inl ⟨by rfl, ?_⟩) hHeld ?_
      rotate_left
      · intro w hSw
        (try dsimp only at hSw)
        go_simp
        all_goals with_reducible rfl
      (try simp only [Act.put, List.setIfInBounds_toArray, List.set_cons_zero, List.set_cons_succ])
      refine wpAnyH_take (i := 1) (oi := { dst := some 16, op := Go.Op.load 34 (Go.Operand.tmp 15), type := 34, pos := "law.go:33", after := #[{ on := 0, ground := Go.Ground.data }], guard := none }) (v := ?_) rfl (by kernel_rfl) (by kernel_rfl) (by kernel_rfl) (fun _ _ _ h => h) (Or.inl ⟨by rfl, ?_⟩) hHeld ?_
      rotate_left
      · intro w hSw
        (try dsimp only at hSw)
        go_simp
        all_goals with_reducible rfl
      (try simp only [Act.put, List.setIfInBounds_toArray, List.set_cons_zero, List.set_cons_succ])
      refine wpAnyH_take (i := 2) (oi := { dst := some 17, op := Go.Op.move (Go.Operand.tmp 4), type := 3, pos := "law.go:33", after := #[], guard := none }) (v := ?_) rfl (by kernel_rfl) (by kernel_rfl) (by kernel_rfl) (fun _ _ _ h => h) (Or.inl ⟨by rfl, ?_⟩) hHeld ?_
      rotate_left
      · intro w hSw
        (try dsimp only at hSw)
        go_simp
        all_goals with_reducible rfl
      (try simp only [Act.put, List.setIfInBounds_toArray, List.set_cons_zero, List.set_cons_succ])
      refine wpAnyH_take (i := 3) (oi := { dst := some 18, op := Go.Op.indexAddr 34 (Go.Operand.tmp 16) (Go.Operand.tmp 17), type := 0, pos := "law.go:33", after := #[{ on := 1, ground := Go.Ground.data }, { on := 2, ground := Go.Ground.data }], guard := none }) (v := ?_) rfl (by kernel_rfl) (by kernel_rfl) (by kernel_rfl) (fun _ _ _ h => h) (Or.inl ⟨by rfl, ?_⟩) hHeld ?_
      rotate_left
      · intro w hSw
        (try dsimp only at hSw)
        go_simp
        all_goals with_reducible rfl
      (try simp only [Act.put, List.setIfInBounds_toArray, List.set_cons_zero, List.set_cons_succ])
      refine wpAnyH_take (i := 4) (oi := { dst := some 19, op := Go.Op.fieldAddr 48 (Go.Operand.tmp 18) 1, type := 0, pos := "law.go:33", after := #[{ on := 3, ground := Go.Ground.data }], guard := none }) (v := ?_) rfl (by kernel_rfl) (by kernel_rfl) (by kernel_rfl) (fun _ _ _ h => h) (Or.inl ⟨by rfl, ?_⟩) hHeld ?_
      rotate_left
      · intro w hSw
        (try dsimp only at hSw)
        go_simp
        all_goals with_reducible rfl
      (try simp only [Act.put, List.setIfInBounds_toArray, List.set_cons_zero, List.set_cons_succ])
      refine wpAnyH_take (i := 5) (oi := { dst := some 20, op := Go.Op.load 46 (Go.Operand.tmp 19), type := 46, pos := "law.go:33", after := #[{ on := 4, ground := Go.Ground.data }], guard := none }) (v := ?_) rfl (by kernel_rfl) (by kernel_rfl) (by kernel_rfl) (fun _ _ _ h => h) (Or.inl ⟨by rfl, ?_⟩) hHeld ?_
      rotate_left
      · intro w hSw
        (try dsimp only at hSw)
        go_simp
        all_goals with_reducible rfl
      (try simp only [Act.put, List.setIfInBounds_toArray, List.set_cons_zero, List.set_cons_succ])
      refine wpAnyH_take (i := 7) (oi := { dst := some 22, op := Go.Op.fieldAddr 36 (Go.Operand.tmp 1) 0, type := 0, pos := "law.go:33", after := #[], guard := none }) (v := ?_) rfl (by kernel_rfl) (by kernel_rfl) (by kernel_rfl) (fun _ _ _ h => h) (Or.inl ⟨by rfl, ?_⟩) hHeld ?_
      rotate_left
      · intro w hSw
        (try dsimp only at hSw)
        go_simp
        all_goals with_reducible rfl
      (try simp only [Act.put, List.setIfInBounds_toArray, List.set_cons_zero, List.set_cons_succ])
      refine wpAnyH_take (i := 8) (oi := { dst := some 23, op := Go.Op.load 34 (Go.Operand.tmp 22), type := 34, pos := "law.go:33", after := #[{ on := 7, ground := Go.Ground.data }], guard := none }) (v := ?_) rfl (by kernel_rfl) (by kernel_rfl) (by kernel_rfl) (fun _ _ _ h => h) (Or.inl ⟨by rfl, ?_⟩) hHeld ?_
      rotate_left
      · intro w hSw
        (try dsimp only at hSw)
        go_simp
        all_goals with_reducible rfl
      (try simp only [Act.put, List.setIfInBounds_toArray, List.set_cons_zero, List.set_cons_succ])
      refine wpAnyH_take (i := 9) (oi := { dst := some 24, op := Go.Op.move (Go.Operand.tmp 4), type := 3, pos := "law.go:33", after := #[], guard := none }) (v := ?_) rfl (by kernel_rfl) (by kernel_rfl) (by kernel_rfl) (fun _ _ _ h => h) (Or.inl ⟨by rfl, ?_⟩) hHeld ?_
      rotate_left
      · intro w hSw
        (try dsimp only at hSw)
        go_simp
        all_goals with_reducible rfl
      (try simp only [Act.put, List.setIfInBounds_toArray, List.set_cons_zero, List.set_cons_succ])
      refine wpAnyH_take (i := 10) (oi := { dst := some 25, op := Go.Op.indexAddr 34 (Go.Operand.tmp 23) (Go.Operand.tmp 24), type := 0, pos := "law.go:33", after := #[{ on := 8, ground := Go.Ground.data }, { on := 9, ground := Go.Ground.data }], guard := none }) (v := ?_) rfl (by kernel_rfl) (by kernel_rfl) (by kernel_rfl) (fun _ _ _ h => h) (Or.inl ⟨by rfl, ?_⟩) hHeld ?_
      rotate_left
      · intro w hSw
        (try dsimp only at hSw)
        go_simp
        all_goals with_reducible rfl
      (try simp only [Act.put, List.setIfInBounds_toArray, List.set_cons_zero, List.set_cons_succ])
      refine wpAnyH_take (i := 11) (oi := { dst := some 26, op := Go.Op.fieldAddr 48 (Go.Operand.tmp 25) 2, type := 0, pos := "law.go:33", after := #[{ on := 10, ground := Go.Ground.data }], guard := none }) (v := ?_) rfl (by kernel_rfl) (by kernel_rfl) (by kernel_rfl) (fun _ _ _ h => h) (Or.inl ⟨by rfl, ?_⟩) hHeld ?_
      rotate_left
      · intro w hSw
        (try dsimp only at hSw)
        go_simp
        all_goals with_reducible rfl
      (try simp only [Act.put, List.setIfInBounds_toArray, List.set_cons_zero, List.set_cons_succ])
      refine wpAnyH_take (i := 12) (oi := { dst := some 27, op := Go.Op.load 46 (Go.Operand.tmp 26), type := 46, pos := "law.go:33", after := #[{ on := 11, ground := Go.Ground.data }], guard := none }) (v := ?_) rfl (by kernel_rfl) (by kernel_rfl) (by kernel_rfl) (fun _ _ _ h => h) (Or.inl ⟨by rfl, ?_⟩) hHeld ?_
      rotate_left
      · intro w hSw
        (try dsimp only at hSw)
        go_simp
        all_goals with_reducible rfl
      (try simp only [Act.put, List.setIfInBounds_toArray, List.set_cons_zero, List.set_cons_succ])
      refine wpAnyH_ready (rs := [6]) (by kernel_rfl) (by simp) ?_
      refine AllReadyH.cons (o := { dst := some 21, op := Go.Op.call { callee := Go.Callee.builtin Go.Builtin.append, args := #[Go.Operand.const (Go.Value.slice none 0 0), Go.Operand.tmp 20], argTypes := #[46, 46] }, type := 46, pos := "law.go:33", after := #[{ on := 5, ground := Go.Ground.data }], guard := none }) rfl (fun K hK => ?_) AllReadyH.nil
      refine step_app_sl rfl _ _ 46 rfl W0.heap.size 51 i0 (.agg #[.int .i64 0, .string ⟨#[]⟩, .slice none 0 0]) 3 48 Tryz.underlying46 hi hz0 hz1 hz2 rfl (by omega) (.slice none 0 0) 0 [] (by simp [Act.eval, Act.put]) (World.ownsRow_nil _ _ _ _) AK s.K.length cK xsK (by simp [Act.eval, Act.put]) (HSK.out.on ((Below.refl _ _).drew)) h11 (by unfold maxLen; omega) (by omega) hbw.size ?_
      intro v2 w2 hown2 hg2
      rw [Nat.zero_add] at hown2
      have hb2 : Below wr.heap.size wr w2 := ((Below.refl _ _).drew).trans ⟨hg2.os, hg2.tape, hg2.output, hg2.size, fun k hk => hg2.block k hk (by simp [Value.ownBlock])⟩
      have HV2 := Lib.hid (HSV.out.on hb2)
      refine hK.out _ _ (⟨cell_on hb2 g0, cell_on hb2 c1, cell_on hb2 c2⟩) (fun hHeld => ?_)
      clear hK K
      (try simp only [Act.put, List.setIfInBounds_toArray, List.set_cons_zero, List.set_cons_succ])
      refine wpAnyH_ready (rs := [13]) (by kernel_rfl) (by simp) ?_
      refine AllReadyH.cons (o := { dst := some 28, op := Go.Op.call { callee := Go.Callee.builtin Go.Builtin.append, args := #[Go.Operand.tmp 21, Go.Operand.tmp 27], argTypes := #[46, 46] }, type := 46, pos := "law.go:33", after := #[{ on := 6, ground := Go.Ground.data }, { on := 12, ground := Go.Ground.data }, { on := 6, ground := Go.Ground.chain }], guard := none }) rfl (fun K hK => ?_) AllReadyH.nil
      refine step_app_sl rfl _ _ 46 rfl W0.heap.size 51 i0 (.agg #[.int .i64 0, .string ⟨#[]⟩, .slice none 0 0]) 3 48 Tryz.underlying46 hi hz0 hz1 hz2 rfl (by omega) v2 s.K.length _ (by simp [Act.eval, Act.put]) hown2 AV s.V.length cV_ xsV (by simp [Act.eval, Act.put]) HV2.out h12_ (by unfold maxLen; omega) (by omega) (Nat.le_trans hbw.size hb2.size) ?_
      intro v3 w3 hown3 hg3
      have hb3 : Below W0.heap.size w2 w3 := below_app hown2 hg3 (Nat.le_trans hbw.size hb2.size)
      have k1 : w3.cell? ⟨w.heap.size, 0, none⟩ = some (.slice (some ad) m.F.length c) := (World.cell?_of_block (hb3.block _ hX)).trans (cell_on hb2 g0)
      have k2 := (World.cell?_of_block (a := ⟨(ad.add (p * 3)).block, (ad.add (p * 3)).off + 1, none⟩) (hb3.block _ hadX)).trans (cell_on hb2 c1)
      have k3 := (World.cell?_of_block (a := ⟨(ad.add (p * 3)).block, (ad.add (p * 3)).off + 2, none⟩) (hb3.block _ hadX)).trans (cell_on hb2 c2)
      refine hK.out _ _ (⟨k1, k2, k3⟩) (fun hHeld => ?_)
      clear hK K
      (try simp only [Act.put, List.setIfInBounds_toArray, List.set_cons_zero, List.set_cons_succ])
      refine wpAnyH_take (i := 14) (oi := { dst := some 5, op := Go.Op.assign (Go.Operand.tmp 28), type := 46, pos := "law.go:33", after := #[{ on := 13, ground := Go.Ground.data }, { on := 13, ground := Go.Ground.chain }, { on := 0, ground := Go.Ground.phase }, { on := 1, ground := Go.Ground.phase }, { on := 2, ground := Go.Ground.phase }, { on := 3, ground := Go.Ground.phase }, { on := 4, ground := Go.Ground.phase }, { on := 5, ground := Go.Ground.phase }, { on := 6, ground := Go.Ground.phase }, { on := 7, ground := Go.Ground.phase }, { on := 8, ground := Go.Ground.phase }, { on := 9, ground := Go.Ground.phase }, { on := 10, ground := Go.Ground.phase }, { on := 11, ground := Go.Ground.phase }, { on := 12, ground := Go.Ground.phase }, { on := 13, ground := Go.Ground.phase }], guard := none }) (v := ?_) rfl (by kernel_rfl) (by kernel_rfl) (by kernel_rfl) (fun _ _ _ h => h) (Or.inl ⟨by rfl, ?_⟩) hHeld ?_
      rotate_left
      · intro w hSw
        (try dsimp only at hSw)
        go_simp
        all_goals with_reducible rfl
      (try simp only [Act.put, List.setIfInBounds_toArray, List.set_cons_zero, List.set_cons_succ])
      refine wpAnyH_done (by kernel_rfl) ?_ _
      obtain ⟨L, hL⟩ : ∃ L, s.K ++ s.V = L := ⟨_, rfl⟩
      have HB2 := Lib.hid ((HBW.out.trans (hb2.mono HBW.out.size)).trans (hb3.mono LBD.size))
      have HB3 := Lib.hid ((hbw.trans (hb2.mono hbw.size)).trans hb3)
      have hLl : s.K.length + s.V.length = L.length := by rw [← hL, List.length_append]
      rw [hLl] at hown3
      have hr7 : T9.Rows (VAt (Rd B w3) D) L (xsK ++ xsV) := by
        rw [← hL]
        have hlo : Lo B wr w3 := (Lo.below hb2 (Nat.le_trans hB HBW.out.size)).trans (Lo.of (hb3.mono (Nat.le_trans hB LBD.size)))
        exact (HRK.out.1.imp fun a cs h => VRd.low hlo h).append (HRK.out.2.imp fun a cs h => VRd.low hlo h)
      rw [hL] at hst HCN HTN
      have HST := Lib.hid hst
      have hmx : N + sm (L.map tV) ≤ 4611686018427387904 := by omega
      have hLm : L.length ≤ 100000 := by omega
      obtain ⟨A7, c7, rfl, hs7⟩ := Sl.of_own hown3
      have HS7 := Lib.hid hs7
      have HR7 := Lib.hid hr7
      clear hown2 hown3 hr7 hs7 hL hb2 hb3 hg2 hg3 g0 c1 c2 k1 k2 k3 hbw hst hle h11 h12_ HV2 hHeld hLl
      go_wp2
      go_loopw [3, 6, 7] (fun n k j wx => ∃ q : Nat, k = .int .i64 q ∧ q ≤ L.length ∧ n = .int .i64 ((N + sm ((L.take q).map tV) : Nat) : Int) ∧ Below w3.heap.size w3 wx) (fun _ k _ _ => L.length - (intOf k).toNat)
      case atStart => exact ⟨0, rfl, by omega, by simp only [List.take_zero, List.map_nil, sm]; rfl, Below.refl _ _⟩
      case round =>
        obtain ⟨q, rfl, hq, rfl, hbx⟩ := hrel
        by_cases hql : q < L.length
        · obtain ⟨v, hv⟩ : ∃ v, L[q]? = some v := ⟨_, List.getElem?_eq_getElem hql⟩
          obtain ⟨a7, x, y, z, rfl, hga7, hcc, c0, c1, c2⟩ := row3 vAt.len (HS7.out.on hbx) (HR7.out.imp fun a cs h => VRd.low (Lo.below hbx (Nat.le_trans hB HB2.out.size)) h) hv
          obtain ⟨um, hu, hlm⟩ := hcc
          simp only [List.cons.injEq, and_true] at hu
          obtain ⟨rfl, rfl, rfl⟩ := hu
          obtain ⟨AM, cM, xsM, rfl, hsM, hbM, hrM, hnM⟩ := hlm.open_
          have HSM := Lib.hid hsM
          have HRM := Lib.hid hrM
          have HBM := Lib.hid hbM
          have hst2 := sm_take_next tV hv
          have hle2 := sm_take_le L (q + 1) tV
          have HCM := Lib.hid (fun x hx => HCN.out v x (List.mem_of_getElem? hv) hx)
          have HTT := Lib.hid (fun x hx => HTN.out v x (List.mem_of_getElem? hv) hx)
          have HBX := Lib.hid hbx
          have C2 := Lib.hid c2
          have hlt7 : a7.block < wr.heap.size := hga7
          obtain ⟨M0, hM0⟩ : ∃ M0, M0 = N + sm ((L.take q).map tV) := ⟨_, rfl⟩
          have hM0' : N + sm (List.take q (List.map tV L)) = M0 := by rw [hM0, List.map_take]
          have HS2 := Lib.hid (show N + sm ((L.take (q + 1)).map tV) = M0 + v.s.length + sm (v.M.map Mg.txt) by rw [hst2, hM0]; show N + (_ + (v.s.length + sm (v.M.map Mg.txt))) = _; omega)
          have hmx2 : M0 + v.s.length + sm (v.M.map Mg.txt) ≤ 4611686018427387904 := by rw [← HS2.out]; omega
          have hsl : (tx v.s).size = v.s.length := by simp [tx, ByteArray.size]
          (try rw [hM0']); (try rw [← hM0])
          clear hsM hrM hbM hlm hv c0 hbx hst2 hle2 hM0 hM0'
          go_wp2
          (try rw [hsl])
          go_loopw [3, 7] (fun n j wy => ∃ t : Nat, j = .int .i64 t ∧ t ≤ v.M.length ∧ n = .int .i64 ((M0 + v.s.length + sm ((v.M.take t).map Mg.txt) : Nat) : Int) ∧ Below wr.heap.size wr wy) (fun _ j _ => v.M.length - (intOf j).toNat)
          case atStart => exact ⟨0, rfl, by omega, by simp only [List.take_zero, List.map_nil, sm]; (try rfl); (try go_num), Below.refl _ _⟩
          case round =>
            obtain ⟨t, rfl, ht, rfl, hby⟩ := hrel
            have k2 := cell_on hby C2.out
            clear c2
            by_cases htl : t < v.M.length
            · obtain ⟨x, hx⟩ : ∃ x, v.M[t]? = some x := ⟨_, List.getElem?_eq_getElem htl⟩
              obtain ⟨am, ux, rfl, hgam, hcx, k0⟩ := row1 MAt.len (sl_low HSM.out HBM.out (Lo.below hby (Nat.le_trans hB (Nat.le_trans HB2.out.size HBX.out.size)))) (HRM.out.imp fun a cs h => MRd.low (Lo.below hby (Nat.le_trans hB (Nat.le_trans HB2.out.size HBX.out.size))) h) hx
              have HCX := Lib.hid (HH.out x ux wr (Nat.le_trans hB (Nat.le_trans HB2.out.size (Nat.le_trans HBX.out.size hby.size))) hcx (HCM.out x (List.mem_of_getElem? hx)) (HTT.out x (List.mem_of_getElem? hx)))
              have hst3 := sm_take_next Mg.txt hx
              have hle3 := sm_take_le v.M (t + 1) Mg.txt
              obtain ⟨P0, hP0⟩ : ∃ P0, P0 = sm ((v.M.take t).map Mg.txt) := ⟨_, rfl⟩
              have hP0' : sm (List.take t (List.map Mg.txt v.M)) = P0 := by rw [hP0, List.map_take]
              rw [← hP0] at hst3
              have HS3 := Lib.hid hst3
              have hb3 : M0 + v.s.length + (P0 + Mg.txt x) ≤ 4611686018427387904 := by omega
              have HBY := Lib.hid hby
              (try rw [hP0']); (try rw [← hP0])
              clear hcx hx hby hst3 hle3 hP0 hP0'
              go_wp2_with (go_at_call 26; refine HCX.out.mono ?_; rintro e w9 ⟨rfl, hb9⟩)
              refine ⟨⟨t + 1, by go_num, by omega, ?_, HBY.out.trans (hb9.mono HBY.out.size)⟩, by simp [intOf]; omega⟩
              rw [HS3.out]
              go_num
            · obtain rfl : t = v.M.length := by omega
              go_wp2
              refine ⟨⟨q + 1, by go_num, by omega, ?_, HBX.out.trans (hby.mono HBX.out.size)⟩, by simp [intOf]; omega⟩
              rw [HS2.out]
              (try rw [List.take_length])
              (try rfl)
        · obtain rfl : q = L.length := by omega
          go_wp2
          refine ⟨⟨p + 1, by go_num, by omega, ?_, HB3.out.trans (hbx.mono HB3.out.size)⟩, by simp [intOf]; omega⟩
          rw [HST.out]
          (try rw [List.take_length])
          (try rfl)
    · obtain rfl : p = m.F.length := by omega
      go_wp2
      go_ret
      exact ⟨by rw [Mg.txt_eq]; (try rw [List.take_length]); (try rfl), HBW.out⟩
/-- texts, of any message. -/
theorem txt_any (B : Nat) : ∀ D, TxtH B D
  | 0 => fun _ _ _ _ h _ _ => h.elim
  | D + 1 => txt_step (txt_any B D)
theorem txt_le (m : Mg) : MIn m → Mg.txt m ≤ 140737488351232 * m.cnt := by
  refine Mg.ind (P := fun m => MIn m → Mg.txt m ≤ 140737488351232 * m.cnt) (fun m ih hi => ?_) m
  rw [Mg.txt_eq, Mg.cnt_eq]
  have hv : ∀ s ∈ m.F, ∀ v, v ∈ s.K ∨ v ∈ s.V → tV v ≤ 140737488351232 * cV v := by
    intro s hs v hv
    have h1 := ((hi.slot hs).2 v hv).1.2
    have h2 : sm (v.M.map Mg.txt) ≤ sm (v.M.map fun x => 140737488351232 * (1 + x.cnt)) := sm_mono fun x hx => by
      have := ih s hs v hv x hx (((hi.slot hs).2 v hv).2 x hx)
      omega
    have h3 : ∀ l : List Mg, sm (l.map fun x => 140737488351232 * (1 + x.cnt)) = 140737488351232 * sm (l.map fun x => 1 + x.cnt) := fun l => by
      induction l with
      | nil => rfl
      | cons x l ih => simp only [List.map_cons, sm, ih]; omega
    rw [h3] at h2
    unfold tV cV
    omega
  have hm : ∀ (l : List Vl'), (∀ v ∈ l, tV v ≤ 140737488351232 * cV v) → sm (l.map tV) ≤ 140737488351232 * sm (l.map cV) := fun l h => by
    induction l with
    | nil => exact Nat.zero_le _
    | cons x l ih => have := h x (by simp); have := ih fun v hv => h v (by simp [hv]); simp only [List.map_cons, sm]; omega
  have hs : ∀ l : List So, (∀ s ∈ l, tS s ≤ 140737488351232 * cS s) → sm (l.map tS) ≤ 140737488351232 * sm (l.map cS) := fun l h => by
    induction l with
    | nil => exact Nat.zero_le _
    | cons x l ih => have := h x (by simp); have := ih fun v hv => h v (by simp [hv]); simp only [List.map_cons, sm]; omega
  refine hs _ fun s hs' => ?_
  have h1 := hm s.K fun v hv' => hv s hs' v (.inl hv')
  have h2 := hm s.V fun v hv' => hv s hs' v (.inr hv')
  unfold tS cS
  omega
end Go.Proofs.YtipaangiehdgkaaGreatDoor.T12
/-
  One level more changes nothing of what is within fewer: what is of a message, what is normal, and its bytes.
-/
namespace Go.Proofs.YtipaangiehdgkaaGreatDoor.T12
set_option maxRecDepth 100000

open Go.Proofs.YtipaangiehdgkaaGreatDoor.T9 Go.Proofs.YtipaangiehdgkaaGreatDoor.T4

theorem fm_congr {α β : Type} {f g : α → Option β} : ∀ {l : List α}, (∀ a ∈ l, f a = g a) → l.filterMap f = l.filterMap g
  | [], _ => rfl
  | x :: l, h => by
    rw [List.filterMap_cons, List.filterMap_cons, h x (by simp), fm_congr fun a ha => h a (by simp [ha])]
theorem ask_up {G G' : Int → Mg → Bool} (h : ∀ r x, G r x = true → G' r x = true) {kind ref : Int} {v : Vl'} (ha : askG G kind ref v = true) : askG G' kind ref v = true := by
  by_cases h9 : kind = 9
  · subst h9
    obtain ⟨h1, h2, x, hx, hg⟩ := ask_nine ha
    unfold askG
    rw [if_neg (by decide), if_neg (by decide), if_pos rfl, h1, h2, hx]
    simp [oneB, h _ _ hg]
  · have e : askG G kind ref v = askG G' kind ref v := by
      unfold askG
      rw [if_neg h9, if_neg h9]
    rw [← e]; exact ha
theorem nv_up {G : Int → Mg → Bool} {N N' : Int → Mg → Mg} (h : ∀ r x, G r x = true → N' r x = N r x) {kind ref : Int} {v : Vl'} (ha : askG G kind ref v = true) : norV N' ref v = norV N ref v := by
  by_cases h9 : kind = 9
  · subst h9
    obtain ⟨h1, h2, x, hx, hg⟩ := ask_nine ha
    unfold norV
    rw [hx, List.map_cons, List.map_cons, h _ _ hg]; rfl
  · unfold norV
    rw [ask_of ha h9]; rfl
theorem vl_up {G : Int → Mg → Bool} {E E' : Int → Mg → List UInt8} (h : ∀ r x, G r x = true → E' r x = E r x) {kind ref no : Int} {v : Vl'} (ha : askG G kind ref v = true) : valL E' kind ref no v = valL E kind ref no v := by
  unfold valL
  by_cases h9 : kind = 9
  · subst h9
    obtain ⟨h1, h2, x, hx, hg⟩ := ask_nine ha
    rw [if_pos rfl, if_pos rfl, hx]
    show runL no (E' ref x) = runL no (E ref x)
    rw [h _ _ hg]
  · rw [if_neg h9, if_neg h9]
theorem up_step {s : Sc} {G G' : Int → Mg → Bool} {N N' : Int → Mg → Mg} {E E' : Int → Mg → List UInt8} (hG : ∀ r x, G r x = true → G' r x = true) (hN : ∀ r x, G r x = true → N' r x = N r x) (hE : ∀ r x, G r x = true → E' r x = E r x) (m : Int) (x : Mg) (h : isG s G m x = true) :
    isG s G' m x = true ∧ norG s N' m x = norG s N m x ∧ encG s E' m x = encG s E m x := by
  unfold isG at h
  rw [Bool.and_eq_true] at h
  obtain ⟨h0, h1⟩ := h
  obtain ⟨p1, p2, p3⟩ := slots_iff.1 h1
  have parts : ∀ {f : Df} {a : So}, fillG G f a = true → (∀ v ∈ a.K, askG G f.key 0 v = true) ∧ (∀ v ∈ a.V, askG G f.kind f.ref v = true) ∧ manyB f a.K.length a.V.length = true := fun {f a} h => by
    unfold fillG at h
    simp only [Bool.and_eq_true, List.all_eq_true] at h
    exact ⟨h.2.1, h.2.2, h.1⟩
  refine ⟨?_, ?_, ?_⟩
  · unfold isG
    rw [h0, Bool.true_and]
    refine slots_iff.2 ⟨fun a ha => ?_, p2, p3⟩
    obtain ⟨f, hf, hfl⟩ := p1 a ha
    obtain ⟨k1, k2, k3⟩ := parts hfl
    refine ⟨f, hf, ?_⟩
    unfold fillG
    simp only [Bool.and_eq_true, List.all_eq_true]
    exact ⟨k3, fun v hv => ask_up hG (k1 v hv), fun v hv => ask_up hG (k2 v hv)⟩
  · refine Mg.ext ?_
    show srt ltNo (x.F.filterMap (norO (byS s m) N')) = srt ltNo (x.F.filterMap (norO (byS s m) N))
    rw [fm_congr fun a ha => ?_]
    obtain ⟨f, hf, hfl⟩ := p1 a ha
    obtain ⟨k1, k2, k3⟩ := parts hfl
    have e : norS N' f a = norS N f a := by
      unfold norS
      by_cases hk : f.key = -1
      · rw [if_pos hk, if_pos hk, List.map_congr_left fun v hv => nv_up hN (k2 v hv)]
      · rw [if_neg hk, if_neg hk, List.map_congr_left fun k hk' => ?_]
        refine nv_up hN (k2 _ (last_V ?_ hk'))
        unfold manyB at k3
        rw [if_neg hk] at k3
        exact beq_iff_eq.1 k3
    unfold norO
    rw [hf, Option.bind_some, Option.bind_some, e]
  · unfold encG
    rw [List.map_congr_left fun a ha => ?_]
    obtain ⟨f, hf, hfl⟩ := p1 a ha
    obtain ⟨k1, k2, k3⟩ := parts hfl
    unfold slotL
    rw [hf]
    show fieldL E' f a = fieldL E f a
    unfold fieldL
    by_cases hk : f.key = -1
    · rw [if_pos hk, if_pos hk]
      by_cases hc : (f.rep && cnt f.kind) = true
      · rw [if_pos hc, if_pos hc]
      · rw [if_neg hc, if_neg hc, List.map_congr_left fun v hv => vl_up hE (k2 v hv)]
    · rw [if_neg hk, if_neg hk, List.map_congr_left fun p hp => ?_]
      obtain ⟨k, v⟩ := p
      have hz := List.of_mem_zip hp
      unfold entL
      rw [vl_up hE (k1 k hz.1), vl_up hE (k2 v hz.2)]
theorem up_all (s : Sc) : ∀ d m x, isB s d m x = true → isB s (d + 1) m x = true ∧ norB s (d + 1) m x = norB s d m x ∧ encB s (d + 1) m x = encB s d m x
  | 0, _, _, h => by cases h
  | d + 1, m, x, h => up_step (fun r y hy => (up_all s d r y hy).1) (fun r y hy => (up_all s d r y hy).2.1) (fun r y hy => (up_all s d r y hy).2.2) m x h
end Go.Proofs.YtipaangiehdgkaaGreatDoor.T12
/-
  A record's bytes lie where nothing lay before: the contract of the function that puts them, told of that; bytes, and lists of bytes of the call's own.
-/
namespace Go.Proofs.YtipaangiehdgkaaGreatDoor.T12
set_option maxRecDepth 100000

open Go.RowKit

open Go.Proofs.YtipaangiehdgkaaGreatDoor.T9

theorem of_own_ge {w : World} {base : Nat} {e : TypeId} {v : Value} {l : List UInt8} (h : w.ownsRow base e 1 v l.length (bs l)) : ∃ A c, v = .slice A l.length c ∧ SlB w A c l ∧ ∀ a, A = some a → base ≤ a.block := by
  obtain ⟨A, c, rfl, hs⟩ := SlB.of_own h
  refine ⟨A, c, rfl, hs, fun a ha => ?_⟩
  subst ha
  exact (own_blk h a.block rfl).1
/-- Bytes that lie at a block b, or behind it. -/
def By (b : Nat) (w : World) (l : List UInt8) (v : Value) : Prop := ∃ A c, v = .slice A l.length c ∧ SlB w A c l ∧ ∀ a, A = some a → 0 < l.length → b ≤ a.block
theorem By.less {b b' : Nat} {w : World} {l : List UInt8} {v : Value} (h : By b w l v) (hb : b' ≤ b) : By b' w l v := by
  obtain ⟨A, c, e, h1, h2⟩ := h
  exact ⟨A, c, e, h1, fun a ha hl => Nat.le_trans hb (h2 a ha hl)⟩
theorem By.on {b : Nat} {w w' : World} {l : List UInt8} {v : Value} (h : By b w l v) (hb : Below w.heap.size w w') : By b w' l v := by
  obtain ⟨A, c, e, h1, h2⟩ := h
  exact ⟨A, c, e, h1.on hb, h2⟩
theorem By.own {b : Nat} {w : World} {e : TypeId} {v : Value} {l : List UInt8} (h : w.ownsRow b e 1 v l.length (bs l)) : By b w l v := by
  obtain ⟨A, c, e, h1, h2⟩ := of_own_ge h
  exact ⟨A, c, e, h1, fun a ha _ => h2 a ha⟩
theorem By.nil (b : Nat) (w : World) : By b w [] (.slice none 0 0) := ⟨none, 0, rfl, SlB.nil w, fun a h => by cases h⟩
theorem slB_kept {w w' : World} {A : Option Addr} {c : Nat} {l : List UInt8} (h : SlB w A c l) (hs : w.heap.size ≤ w'.heap.size) (hk : ∀ a, A = some a → 0 < l.length → a.block < w.heap.size → w'.heap[a.block]? = w.heap[a.block]?) : SlB w' A c l := by
  unfold SlB at h ⊢
  obtain ⟨h1, h2, h3, h4, h5, h6⟩ := h
  refine ⟨h1, h2, h3, h4, fun ad ha hn => Nat.lt_of_lt_of_le (h5 ad ha hn) hs, fun ad ha k u hu => ?_⟩
  have hl : 0 < l.length := by
    have := (List.getElem?_eq_some_iff.1 hu).1
    rw [h1] at this
    omega
  have e := hk ad ha hl (h5 ad ha hl)
  exact (World.cell?_of_block (by rw [add_same_block]; exact e)).trans (h6 ad ha k u hu)
/-- Lists of bytes that lie elsewhere than block r. -/
def BL (r : Option Nat) (w : World) (l : List UInt8) (cs : List Value) : Prop := ∃ A c, cs = [.slice A l.length c] ∧ SlB w A c l ∧ ∀ a, A = some a → 0 < l.length → r ≠ some a.block
theorem BL.len (r : Option Nat) (w : World) (l : List UInt8) (cs : List Value) (h : BL r w l cs) : cs.length = 1 := by
  obtain ⟨A, c, rfl, -⟩ := h
  rfl
/-- A list of bytes' slices, of the call's own. -/
structure PB (b : Nat) (w : World) (v : Value) (ls : List (List UInt8)) (zs : List Value) : Prop where
  own : w.ownsRow b 22 1 v ls.length zs
  rows : T9.Rows (BL v.ownBlock w) ls zs
section

variable {b : Nat} {w w' : World} {v : Value} {ls : List (List UInt8)} {zs : List Value}

theorem PB.nil (b : Nat) (w : World) : PB b w (.slice none 0 0) [] [] := ⟨World.ownsRow_nil _ _ _ _, rfl⟩
theorem PB.on (h : PB b w v ls zs) (hb : Below w.heap.size w w') : PB b w' v ls zs :=
  ⟨own_hi h.own (hi_below b hb), h.rows.imp fun l cs hl => by
    obtain ⟨A, c, e, h1, h2⟩ := hl
    exact ⟨A, c, e, h1.on hb, h2⟩⟩
theorem PB.lt (h : PB b w v ls zs) (k : Nat) (hk : v.ownBlock = some k) : k < w.heap.size := (own_blk h.own k hk).2
theorem PB.less (h : PB b w v ls zs) {b' : Nat} (hb : b' ≤ b) : PB b' w v ls zs := ⟨own_less h.own hb, h.rows⟩
/-- Behind an append of bytes that are newer than the row. -/
theorem PB.app (h : PB b w v ls zs) {l : List UInt8} {u : Value} {b' : Nat} (hv : ∀ k, v.ownBlock = some k → k < b') (hl : By b' w l u) {g cap : Nat}
    (hrow : w'.ownsRow b 22 1 (.slice (some ⟨g, 0, none⟩) (ls.length + 1) cap) (ls.length + 1) (zs ++ [u])) (hg : w.grownBy w' v.ownBlock) (hat : v.ownBlock = some g ∨ w.heap.size ≤ g) : PB b w' (.slice (some ⟨g, 0, none⟩) (ls.length + 1) cap) (ls ++ [l]) (zs ++ [u]) := by
  have H : ∀ l cs, BL v.ownBlock w l cs → BL (some g) w' l cs := by
    rintro l cs ⟨A, c, e, h1, h2⟩
    refine ⟨A, c, e, slB_kept h1 hg.size fun a ha hn hlt => hg.block _ hlt fun e => h2 a ha hn e.symm, fun a ha hn e => ?_⟩
    injection e with e
    rcases hat with hat | hat
    · exact h2 a ha hn (by rw [hat, e])
    · have := h1.old a ha hn
      omega
  refine ⟨by rw [List.length_append]; exact hrow, (h.rows.imp H).append (Rows.single (H _ _ ?_))⟩
  obtain ⟨A, c, rfl, h1, h2⟩ := hl
  refine ⟨A, c, rfl, h1, fun a ha hn e => ?_⟩
  have h3 := hv a.block e
  have h4 := h2 a ha hn
  omega
end

set_option maxRecDepth 1000000 in
set_option maxHeartbeats 4000000 in
theorem rcputB_any (no wire : Int) (num : Nat) (f u : Int) (A : Option Addr) (c : Nat) (run : List UInt8) (hn1 : -9223372036854775808 ≤ no) (hn2 : no ≤ 9223372036854775807) (hw1 : -9223372036854775808 ≤ wire) (hw2 : wire ≤ 9223372036854775807)
    (hnum : num < 18446744073709551616) (hl : run.length ≤ 140737488351232) (w : World) (h1 : SlB w A c run) (T : Wires w) :
    Calls Tryz.prog 154 #[ZV no wire num f u, .slice A run.length c] w fun e w' => ∃ A' c', e = .returned (.tuple #[.slice A' (recL no wire num run).length c', .bool (putB no wire)]) ∧ SlB w' A' c' (recL no wire num run) ∧ (∀ a, A' = some a → 0 < (recL no wire num run).length → w.heap.size ≤ a.block) ∧ Below w.heap.size w w' := by
  obtain ⟨i0, hi, hz0, hz1, hz2⟩ := info_parts info_u8
  unfold ZV
  have h5 := putL_le5 (no := no) (wire := wire)
  by_cases hB : putB no wire = true
  · rw [recL_yes hB, hB]
    have hk := putB_iff.1 hB
    have hv10 := vput_len10 hnum
    have hr10 := vput_len10 (n := run.length) (by omega)
    have HB := Lib.hid hB
    clear hB
    generalize hP : putL no wire = P at *
    have HP := Lib.hid hP
    clear hP
    rcases hk with ⟨_, rfl | rfl | rfl | rfl⟩
    · -- a number
      have hR : restL 0 num run = vput num := by unfold restL; simp
      rw [hR]
      generalize hV : vput num = V at *
      have HV := Lib.hid hV
      clear hV hR
      have E1 : Hid (P.length + V.length = (P ++ V).length) := Lib.hid (by rw [List.length_append])
      have E2 : Hid (bs P ++ bs V = bs (P ++ V)) := Lib.hid (by rw [bs_append])
      generalize P ++ V = X at *
      go_enter Tryz.func154, Tryz.ntmps154
      go_wp2_with fail
      refine (tput_own no 0 hn1 hn2 hw1 hw2 _ (T.on (below_new _ _))).mono ?_
      rw [HP.out, HB.out]
      rintro e w1 ⟨v1, rfl, hown1, hb1⟩
      have hg1 := hb1.block w.heap.size (by simp)
      rw [heap_alloc_new] at hg1
      obtain ⟨q0, q1, q2, _, _⟩ := heap_cells hg1
      have hb1 := below_then (below_new w _) hb1
      go_wp2_with fail
      refine (put_reads num hnum _).mono ?_
      rw [HV.out]
      rintro e w2 ⟨A2, c2, rfl, hr2, hb2⟩
      have hown2 := own_mono5 (own_below5 hown1 hb2) (show w.heap.size ≤ _ by simp)
      have hb2 := below_then hb1 hb2
      go_wp2_with (at_builtin; refine wpList_app_sl rfl _ _ 22 rfl w.heap.size 5 i0 (.int .u8 0) 1 1 Tryz.underlying22 hi hz0 hz1 hz2 rfl (by omega) v1 P.length (bs P) rfl hown2 A2 V.length c2 (bs V) rfl hr2 (bs_one V) (by unfold maxLen; omega) (by omega) hb2.size ?_; intro v3 w3 hown3 hg3; have hb3 : Below w.heap.size w w3 := hb2.grown hg3 hb2.size (own_ge hown2); rw [E1.out, E2.out] at hown3; obtain ⟨A4, c4, rfl, hr4, hge4⟩ := of_own_ge hown3)
      go_ret2
      exact ⟨A4, c4, rfl, hr4, (fun a h _ => hge4 a h), hb3⟩
    · -- eight bytes
      have hR : restL 1 num run = fixb num 8 := by unfold restL; simp
      rw [hR]
      have hVl : (fixb num 8).length = 8 := fixb_length _ _
      generalize hV : fixb num 8 = V at *
      have HV := Lib.hid hV
      clear hV hR
      have E1 : Hid (P.length + 8 = (P ++ V).length) := Lib.hid (by rw [List.length_append, hVl])
      have E2 : Hid (bs P ++ bs V = bs (P ++ V)) := Lib.hid (by rw [bs_append])
      have hRD : ∀ (w : World) A c, SlB w A c V → Sl w A 8 c 1 (bs V) := fun w A c h => by unfold SlB at h; rw [hVl] at h; exact h
      clear hVl
      generalize P ++ V = X at *
      go_enter Tryz.func154, Tryz.ntmps154
      go_wp2_with fail
      refine (tput_own no 1 hn1 hn2 hw1 hw2 _ (T.on (below_new _ _))).mono ?_
      rw [HP.out, HB.out]
      rintro e w1 ⟨v1, rfl, hown1, hb1⟩
      have hg1 := hb1.block w.heap.size (by simp)
      rw [heap_alloc_new] at hg1
      obtain ⟨q0, q1, q2, _, _⟩ := heap_cells hg1
      have hb1 := below_then (below_new w _) hb1
      go_wp2_with fail
      refine (fixed_any num 8 (by omega) hnum _).mono ?_
      rw [HV.out]
      rintro e w2 ⟨A2, c2, rfl, hr2, hb2⟩
      have hown2 := own_mono5 (own_below5 hown1 hb2) (show w.heap.size ≤ _ by simp)
      have hb2 := below_then hb1 hb2
      have hr2' := hRD _ _ _ hr2
      clear hr2 hRD
      go_wp2_with (at_builtin; refine wpList_app_sl rfl _ _ 22 rfl w.heap.size 5 i0 (.int .u8 0) 1 1 Tryz.underlying22 hi hz0 hz1 hz2 rfl (by omega) v1 P.length (bs P) rfl hown2 A2 8 c2 (bs V) rfl hr2' (bs_one V) (by unfold maxLen; omega) (by omega) hb2.size ?_; intro v3 w3 hown3 hg3; have hb3 : Below w.heap.size w w3 := hb2.grown hg3 hb2.size (own_ge hown2); rw [E1.out, E2.out] at hown3; obtain ⟨A4, c4, rfl, hr4, hge4⟩ := of_own_ge hown3)
      go_ret2
      exact ⟨A4, c4, rfl, hr4, (fun a h _ => hge4 a h), hb3⟩
    · -- a run
      have hR : restL 2 num run = vput run.length ++ run := by unfold restL; simp
      rw [hR]
      have ew : IntKind.u64.wrap (run.length : Int) = run.length := by simp [IntKind.wrap, IntKind.signed, IntKind.bits]; omega
      generalize hV : vput run.length = V at *
      have HV := Lib.hid hV
      clear hV hR
      have E1 : Hid (P.length + V.length + run.length = (P ++ (V ++ run)).length) := Lib.hid (by simp only [List.length_append]; omega)
      have E2 : Hid (bs P ++ bs V ++ bs run = bs (P ++ (V ++ run))) := Lib.hid (by simp only [bs_append, List.append_assoc])
      generalize P ++ (V ++ run) = X at *
      go_enter Tryz.func154, Tryz.ntmps154
      go_wp2_with fail
      refine (tput_own no 2 hn1 hn2 hw1 hw2 _ (T.on (below_new _ _))).mono ?_
      rw [HP.out, HB.out]
      rintro e w1 ⟨v1, rfl, hown1, hb1⟩
      have hg1 := hb1.block w.heap.size (by simp)
      rw [heap_alloc_new] at hg1
      obtain ⟨q0, q1, q2, _, _⟩ := heap_cells hg1
      have hb1 := below_then (below_new w _) hb1
      go_wp2_with fail
      refine (put_reads run.length (by omega) _).mono ?_
      rw [HV.out]
      rintro e w2 ⟨A2, c2, rfl, hr2, hb2⟩
      have hown2 := own_mono5 (own_below5 hown1 hb2) (show w.heap.size ≤ _ by simp)
      have hb2 := below_then hb1 hb2
      have h1' := h1
      clear h1
      go_wp2_with (first
        | (at_builtin; refine wpList_app_sl rfl _ _ 22 rfl w.heap.size 5 i0 (.int .u8 0) 1 1 Tryz.underlying22 hi hz0 hz1 hz2 rfl (by omega) v1 P.length (bs P) rfl hown2 A2 V.length c2 (bs V) rfl hr2 (bs_one V) (by unfold maxLen; omega) (by omega) hb2.size ?_; intro v3 w3 hown3 hg3; have hb3 : Below w.heap.size w w3 := hb2.grown hg3 hb2.size (own_ge hown2); have h3 := h1'.on hb3; clear hr2)
        | (at_builtin; refine wpList_app_sl rfl _ _ 22 rfl w.heap.size 5 i0 (.int .u8 0) 1 1 Tryz.underlying22 hi hz0 hz1 hz2 rfl (by omega) v3 (P.length + V.length) (bs P ++ bs V) rfl hown3 A run.length c (bs run) rfl h3 (bs_one run) (by unfold maxLen; omega) (by omega) hb3.size ?_; intro v4 w4 hown4 hg4; have hb4 : Below w.heap.size w w4 := hb3.grown hg4 hb3.size (own_ge hown3); rw [E1.out, E2.out] at hown4; obtain ⟨A4, c4, rfl, hr4, hge4⟩ := of_own_ge hown4))
      go_ret2
      exact ⟨A4, c4, rfl, hr4, (fun a h _ => hge4 a h), hb4⟩
    · -- four bytes
      have hR : restL 5 num run = fixb num 4 := by unfold restL; simp
      rw [hR]
      have hVl : (fixb num 4).length = 4 := fixb_length _ _
      generalize hV : fixb num 4 = V at *
      have HV := Lib.hid hV
      clear hV hR
      have E1 : Hid (P.length + 4 = (P ++ V).length) := Lib.hid (by rw [List.length_append, hVl])
      have E2 : Hid (bs P ++ bs V = bs (P ++ V)) := Lib.hid (by rw [bs_append])
      have hRD : ∀ (w : World) A c, SlB w A c V → Sl w A 4 c 1 (bs V) := fun w A c h => by unfold SlB at h; rw [hVl] at h; exact h
      clear hVl
      generalize P ++ V = X at *
      go_enter Tryz.func154, Tryz.ntmps154
      go_wp2_with fail
      refine (tput_own no 5 hn1 hn2 hw1 hw2 _ (T.on (below_new _ _))).mono ?_
      rw [HP.out, HB.out]
      rintro e w1 ⟨v1, rfl, hown1, hb1⟩
      have hg1 := hb1.block w.heap.size (by simp)
      rw [heap_alloc_new] at hg1
      obtain ⟨q0, q1, q2, _, _⟩ := heap_cells hg1
      have hb1 := below_then (below_new w _) hb1
      go_wp2_with fail
      refine (fixed_any num 4 (by omega) hnum _).mono ?_
      rw [HV.out]
      rintro e w2 ⟨A2, c2, rfl, hr2, hb2⟩
      have hown2 := own_mono5 (own_below5 hown1 hb2) (show w.heap.size ≤ _ by simp)
      have hb2 := below_then hb1 hb2
      have hr2' := hRD _ _ _ hr2
      clear hr2 hRD
      go_wp2_with (at_builtin; refine wpList_app_sl rfl _ _ 22 rfl w.heap.size 5 i0 (.int .u8 0) 1 1 Tryz.underlying22 hi hz0 hz1 hz2 rfl (by omega) v1 P.length (bs P) rfl hown2 A2 4 c2 (bs V) rfl hr2' (bs_one V) (by unfold maxLen; omega) (by omega) hb2.size ?_; intro v3 w3 hown3 hg3; have hb3 : Below w.heap.size w w3 := hb2.grown hg3 hb2.size (own_ge hown2); rw [E1.out, E2.out] at hown3; obtain ⟨A4, c4, rfl, hr4, hge4⟩ := of_own_ge hown3)
      go_ret2
      exact ⟨A4, c4, rfl, hr4, (fun a h _ => hge4 a h), hb3⟩
  · have hB : putB no wire = false := by simpa using hB
    rw [recL_no hB, hB]
    have HB := Lib.hid hB
    have hP := putL_no hB
    clear hB
    go_enter Tryz.func154, Tryz.ntmps154
    go_wp2_with fail
    refine (tput_own no wire hn1 hn2 hw1 hw2 _ (T.on (below_new _ _))).mono ?_
    rw [HB.out, hP]
    rintro e w1 ⟨v1, rfl, hown1, hb1⟩
    go_wp2
    go_ret2
    exact ⟨none, 0, rfl, SlB.nil _, (fun a h => by cases h), below_then (below_new _ _) hb1⟩
end Go.Proofs.YtipaangiehdgkaaGreatDoor.T12
/-
  Parts put one behind the other: slices.Grow of nothing, slices.Concat, and encode's put, run and together.
-/
namespace Go.Proofs.YtipaangiehdgkaaGreatDoor.T12
set_option maxRecDepth 100000

open Go.RowKit

open Go.Proofs.YtipaangiehdgkaaGreatDoor.T9

theorem BL.on {r : Option Nat} {w w' : World} (hb : Below w.heap.size w w') (l : List UInt8) (cs : List Value) (h : BL r w l cs) : BL r w' l cs := by
  obtain ⟨A, c, e, h1, h2⟩ := h
  exact ⟨A, c, e, h1.on hb, h2⟩
theorem BL.any {r : Option Nat} {w : World} (l : List UInt8) (cs : List Value) (h : BL r w l cs) : BL none w l cs := by
  obtain ⟨A, c, e, h1, h2⟩ := h
  exact ⟨A, c, e, h1, fun a ha hn e => by cases e⟩
set_option maxRecDepth 1000000 in
set_option maxHeartbeats 4000000 in
theorem grow_nil (n : Nat) (hn : n ≤ 140737488351232) (w : World) :
    Calls Tryz.prog 129 #[.slice none 0 0, .int .i64 n] w fun e w' => ∃ v, e = .returned v ∧ w'.ownsRow w.heap.size 5 1 v 0 [] ∧ Below w.heap.size w w' := by
  obtain ⟨i0, hi, hz0, hz1, hz2⟩ := info_parts info_u8
  by_cases h0 : n = 0
  · subst h0
    go_enter Tryz.func129, Tryz.ntmps129
    go_wp2
    go_ret
    exact ⟨_, rfl, World.ownsRow_nil _ _ _ _, Below.refl _ _⟩
  · have h1 : ¬ ((n : Int) < 0) := by omega
    have h2 : (0 : Int) < (n : Int) := by omega
    have hrz : ∀ ty, (Builtin.append_ #[22, 3] ty #[.slice none 0 0, .int .i64 n]).run Tryz.prog w = .ok (.slice (some ⟨w.heap.size, 0, none⟩) n (grownCap w n 0 5)) (w.drew.alloc (.cells (Builtin.zeroCells (Value.int .u8 0).cells n ++ Builtin.zeroCells (Value.int .u8 0).cells (grownCap w n 0 5 - n)) 5)) := fun ty =>
      Lib.run_append_nil_zeros w 22 3 ty 5 i0 (.int .u8 0) .i64 .i64 Tryz.underlying22 Tryz.underlying3 hi hz0 n (by omega) (by omega) (by omega) (by rw [hz2]; omega)
    have hG1 : n ≤ grownCap w n 0 5 := grownCap_ge w _ _ _
    have hG2 : grownCap w n 0 5 ≤ maxLen := grownCap_le_maxLen w n 0 5 (by unfold maxLen; omega)
    obtain ⟨G, hG⟩ : ∃ G, G = grownCap w n 0 5 := ⟨_, rfl⟩
    rw [← hG] at hrz hG1 hG2
    have hsz : ∀ k, (Builtin.zeroCells (Value.int .u8 0).cells k).size = k := fun k => by simp [Builtin.zeroCells, Value.cells]
    obtain ⟨cs, hcs⟩ : ∃ cs, cs = Builtin.zeroCells (Value.int .u8 0).cells n ++ Builtin.zeroCells (Value.int .u8 0).cells (G - n) := ⟨_, rfl⟩
    have hcl : cs.size = G := by rw [hcs, Array.size_append, hsz, hsz]; omega
    rw [← hcs] at hrz
    have hG63 : G ≤ 9223372036854775807 := by unfold maxLen at hG2; omega
    clear hG hcs hsz
    go_enter Tryz.func129, Tryz.ntmps129
    go_wp2_with (at_builtin; refine Lib.wpList_append_run _ rfl _ _ 22 3 rfl _ _ rfl rfl _ _ (hrz _) ?_)
    go_ret
    refine ⟨_, rfl, ⟨by simp, .inr ⟨w.heap.size, G, cs, rfl, Nat.le_refl _, heap_alloc_new w.drew _, Nat.zero_le _, hG2, by rw [hcl]; omega, by simp⟩⟩, ((Below.refl _ _).drew).trans (below_new w.drew _)⟩
set_option maxRecDepth 1000000 in
set_option maxHeartbeats 4000000 in
theorem concat_any (A : Option Addr) (c : Nat) (ls : List (List UInt8)) (zs : List Value) (F : List UInt8) (hF : ls.flatten = F) (w : World) (hs : Sl w A ls.length c 1 zs) (hr : T9.Rows (BL none w) ls zs) (hsum : F.length ≤ 140737488351232) :
    Calls Tryz.prog 79 #[.slice A ls.length c] w fun e w' => ∃ v, e = .returned v ∧ w'.ownsRow w.heap.size 5 1 v F.length (bs F) ∧ Below w.heap.size w w' := by
  obtain ⟨i0, hi, hz0, hz1, hz2⟩ := info_parts info_u8
  have hle := hs.le
  have hcap := hs.cap
  unfold maxLen at hcap
  have HS := Lib.hid hs
  have HR := Lib.hid hr
  obtain ⟨pre, p0, pn, ps, pl⟩ : ∃ pre : Nat → List UInt8, pre 0 = [] ∧ pre ls.length = F ∧ (∀ k l, ls[k]? = some l → pre (k + 1) = pre k ++ l) ∧ (∀ k, (pre k).length ≤ F.length) := by
    refine ⟨fun k => (ls.take k).flatten, rfl, by rw [← hF]; simp, fun k l h => ?_, fun k => ?_⟩
    · show (ls.take (k + 1)).flatten = (ls.take k).flatten ++ l
      rw [List.take_add_one, h]; simp
    · have e : (ls.take k).flatten ++ (ls.drop k).flatten = F := by rw [← List.flatten_append, List.take_append_drop, hF]
      show (ls.take k).flatten.length ≤ F.length
      rw [← e, List.length_append]
      omega
  have HT := Lib.hid ps
  have HL := Lib.hid pl
  have HP := Lib.hid (And.intro p0 pn)
  have l0 : (pre 0).length = 0 := by rw [p0]; rfl
  clear hs hr ps pl p0 pn hF
  go_enter Tryz.func79, Tryz.ntmps79
  go_wp2
  go_loopw [3, 11] (fun z i wr => ∃ k : Nat, i = .int .i64 k ∧ k ≤ ls.length ∧ z = .int .i64 (((pre k).length : Nat) : Int) ∧ Below w.heap.size w wr) (fun _ i _ => ls.length - (intOf i).toNat)
  case atStart => exact ⟨0, rfl, by omega, by rw [l0]; rfl, Below.refl _ _⟩
  case round =>
    obtain ⟨k, rfl, hk, rfl, hbw⟩ := hrel
    by_cases hlt : k < ls.length
    · obtain ⟨l, hl⟩ : ∃ l, ls[k]? = some l := ⟨_, List.getElem?_eq_getElem hlt⟩
      obtain ⟨ad, u, rfl, hga, hcc, c0⟩ := row1 (BL.len none wr) (HS.out.on hbw) (HR.out.imp (BL.on hbw)) hl
      obtain ⟨A1, c1, hu, h1, -⟩ := hcc
      simp only [List.cons.injEq, and_true] at hu
      subst hu
      have h2 := HL.out (k + 1)
      have h3 := HT.out k l hl
      rw [h3, List.length_append] at h2
      obtain ⟨N, hN⟩ : ∃ N, N = (pre k).length := ⟨_, rfl⟩
      have HN : Hid ((pre (k + 1)).length = N + l.length) := Lib.hid (by rw [h3, List.length_append, hN])
      rw [← hN] at h2 ⊢
      have h4 : ¬ ((N : Int) + (l.length : Int) < 0) := by omega
      clear hN h3 hl h1 l0
      go_wp2
      refine ⟨⟨k + 1, by go_num, by omega, by rw [HN.out]; go_num, hbw⟩, by simp [intOf]; omega⟩
    · obtain rfl : k = ls.length := by omega
      rw [HP.out.2]
      have HG := Lib.hid (fun wx => grow_nil F.length hsum wx)
      clear l0
      go_wp2_with fail
      refine (HG.out _).mono ?_
      rintro e w1 ⟨v1, rfl, ho1, hb1⟩
      have hb1' := below_then hbw hb1
      have ho1' := own_less ho1 hbw.size
      clear HG ho1
      go_wp2
      go_loopw [6, 27] (fun v i wr => ∃ k : Nat, i = .int .i64 k ∧ k ≤ ls.length ∧ wr.ownsRow w.heap.size 5 1 v (pre k).length (bs (pre k)) ∧ Below w.heap.size w wr) (fun _ i _ => ls.length - (intOf i).toNat)
      case atStart => exact ⟨0, rfl, by omega, by rw [HP.out.1]; exact ho1', hb1'⟩
      case round =>
        obtain ⟨k, rfl, hk, ho2, hb2⟩ := hrel
        by_cases hlt2 : k < ls.length
        · obtain ⟨l, hl⟩ : ∃ l, ls[k]? = some l := ⟨_, List.getElem?_eq_getElem hlt2⟩
          obtain ⟨ad, u, rfl, hga, hcc, c0⟩ := row1 (BL.len none wr) (HS.out.on hb2) (HR.out.imp (BL.on hb2)) hl
          obtain ⟨A1, c1, hu, h1, -⟩ := hcc
          simp only [List.cons.injEq, and_true] at hu
          subst hu
          have h2 := HL.out (k + 1)
          have h3 := HT.out k l hl
          obtain ⟨X, hX⟩ : ∃ X, X = pre k := ⟨_, rfl⟩
          rw [← hX] at h3 ho2
          rw [h3] at h2
          rw [List.length_append] at h2
          have HX : Hid (pre (k + 1) = X ++ l) := Lib.hid h3
          clear hX h3 hl
          go_wp2_with (at_builtin; refine wpList_app_sl rfl _ _ 22 rfl w.heap.size 5 i0 (.int .u8 0) 1 1 Tryz.underlying22 hi hz0 hz1 hz2 rfl (by omega) _ X.length (bs X) rfl ho2 A1 l.length c1 (bs l) rfl h1 (bs_one l) (by unfold maxLen; omega) (by omega) hb2.size ?_; intro v3 w3 hown3 hg3)
          have hb3 : Below w.heap.size w w3 := hb2.grown hg3 hb2.size (own_ge ho2)
          refine ⟨⟨k + 1, by go_num, by omega, ?_, hb3⟩, by simp [intOf]; omega⟩
          rw [HX.out, List.length_append, bs_append]
          exact hown3
        · obtain rfl : k = ls.length := by omega
          rw [HP.out.2] at ho2
          go_wp2
          go_ret
          exact ⟨_, rfl, ho2, hb2⟩
set_option maxRecDepth 1000000 in
set_option maxHeartbeats 4000000 in
theorem together_any (A : Option Addr) (c : Nat) (ls : List (List UInt8)) (zs : List Value) (F : List UInt8) (hF : ls.flatten = F) (w : World) (hs : Sl w A ls.length c 1 zs) (hr : T9.Rows (BL none w) ls zs) (hsum : F.length ≤ 140737488351232) :
    Calls Tryz.prog 49 #[.slice A ls.length c] w fun e w' => ∃ v, e = .returned v ∧ By w.heap.size w' F v ∧ Below w.heap.size w w' := by
  have HC := Lib.hid (fun wx (h : Below w.heap.size w wx) => concat_any A c ls zs F hF wx (hs.on h) (hr.imp (BL.on h)) hsum)
  clear hs hr hF
  go_enter Tryz.func49, Tryz.ntmps49
  go_wp2_with fail
  refine (HC.out w (Below.refl _ _)).mono ?_
  rintro e w1 ⟨v, rfl, ho, hb⟩
  have HY := Lib.hid (By.own ho)
  clear ho
  go_wp2
  go_ret
  exact ⟨v, rfl, HY.out, hb⟩
set_option maxRecDepth 1000000 in
set_option maxHeartbeats 4000000 in
theorem put_any (no wire : Int) (num : Nat) (f u : Int) (A : Option Addr) (c : Nat) (run : List UInt8) (hn1 : inI no) (hw1 : inI wire) (hnum : num < 18446744073709551616) (hl : run.length ≤ 140737488351232) (w : World) (h1 : SlB w A c run) (T : Wires w) :
    Calls Tryz.prog 108 #[ZV no wire num f u, .slice A run.length c] w fun e w' => ∃ v, e = .returned v ∧ By w.heap.size w' (recL no wire num run) v ∧ Below w.heap.size w w' := by
  have X1 := heap_alloc_new w (.cells #[.int .i64 no, .int .i64 wire, .int .u64 num, .int .i64 f, .int .i64 u] 62)
  have LBD := below_new w (.cells #[.int .i64 no, .int .i64 wire, .int .u64 num, .int .i64 f, .int .i64 u] 62)
  have HP := Lib.hid (fun wx (h : Below w.heap.size w wx) => rcputB_any no wire num f u A c run hn1.1 hn1.2 hw1.1 hw1.2 hnum hl wx (h1.on h) (T.on h))
  obtain ⟨q0, q1, q2, q3, q4⟩ := heap_cells X1
  clear h1
  unfold ZV at HP ⊢
  go_enter Tryz.func108, Tryz.ntmps108
  go_wp2_with fail
  refine (HP.out _ LBD).mono ?_
  rintro e w1 ⟨A', c', rfl, hr, hge, hb⟩
  have HY : Hid (By w.heap.size w1 (recL no wire num run) (.slice A' (recL no wire num run).length c')) := Lib.hid ⟨A', c', rfl, hr, fun a ha hn => Nat.le_trans LBD.size (hge a ha hn)⟩
  clear hr hge
  go_wp2
  go_ret
  exact ⟨_, rfl, HY.out, below_then LBD hb⟩
set_option maxRecDepth 1000000 in
set_option maxHeartbeats 4000000 in
theorem run_any (no : Int) (A : Option Addr) (c : Nat) (ls : List (List UInt8)) (zs : List Value) (F : List UInt8) (hF : ls.flatten = F) (w : World) (hn1 : inI no) (hs : Sl w A ls.length c 1 zs) (hr : T9.Rows (BL none w) ls zs) (hsum : F.length ≤ 140737488351232) (T : Wires w) :
    Calls Tryz.prog 61 #[.int .i64 no, .slice A ls.length c] w fun e w' => ∃ v, e = .returned v ∧ By w.heap.size w' (runL no F) v ∧ Below w.heap.size w w' := by
  have HC := Lib.hid (together_any A c ls zs F hF w hs hr hsum)
  have HP : Hid (∀ A' c' wx, Below w.heap.size w wx → SlB wx A' c' F → Calls Tryz.prog 108 #[.agg #[.int .i64 no, .int .i64 2, .int .u64 0, .int .i64 0, .int .i64 0], .slice A' F.length c'] wx fun e w' => ∃ v, e = .returned v ∧ By wx.heap.size w' (runL no F) v ∧ Below wx.heap.size wx w') :=
    Lib.hid fun A' c' wx h h1 => put_any no 2 0 0 0 A' c' F hn1 ⟨by decide, by decide⟩ (by decide) hsum wx h1 (T.on h)
  clear hs hr hF
  go_enter Tryz.func61, Tryz.ntmps61
  go_wp2_with fail
  refine HC.out.mono ?_
  rintro e w1 ⟨v, rfl, ⟨A', c', rfl, h1, -⟩, hb⟩
  have HP1 := Lib.hid (HP.out A' c' w1 hb h1)
  clear h1
  go_wp2_with fail
  refine HP1.out.mono ?_
  rintro e w2 ⟨v, rfl, hy, hb2⟩
  have HY := Lib.hid (By.less hy hb.size)
  clear hy
  go_wp2
  go_ret
  exact ⟨v, rfl, HY.out, below_then hb hb2⟩
theorem isCounting_any (k : Int) (w : World) : Calls Tryz.prog 76 #[.int .i64 k] w fun e w' => e = .returned (.bool (cnt k)) ∧ Below w.heap.size w w' := by
  have HO := Lib.hid (fun wx => of_any k 0 (by omega) (by omega) wx)
  obtain ⟨b, hb⟩ : ∃ b, cnt k = b := ⟨_, rfl⟩
  rw [hb] at HO ⊢
  clear hb
  go_enter Tryz.func76, Tryz.ntmps76
  go_wp2_with fail
  refine (HO.out _).mono ?_
  rintro e w1 ⟨rfl, hb1⟩
  go_wp2
  go_ret
  exact ⟨rfl, hb1⟩
end Go.Proofs.YtipaangiehdgkaaGreatDoor.T12
/-
  The words of the table's own code, by plain functions: sets of names that may still be taken, the first place that is wrong, what a field may be; each held against the document's words.
-/
namespace Go.Proofs.YtipaangiehdgkaaGreatDoor
set_option maxRecDepth 100000

/-! ### The first that is told -/

/-! ### The plain types, in a row -/

def plainsL : List (List UInt8 × Nat) := [(tInt64, 0), (tSint64, 1), (tUint32, 2), (tBool, 3), (tFixed32, 4), (tSfixed64, 5), (tString, 7), (tBytes, 8)]
theorem typeK_find (x : List UInt8) : (plainsL.find? fun q => q.1 == x).map (·.2) = typeK x := by
  unfold typeK plainsL
  simp only [List.find?_cons, List.find?_nil]
  by_cases h0 : x = tInt64
  · subst h0; rfl
  by_cases h1 : x = tSint64
  · subst h1; rfl
  by_cases h2 : x = tUint32
  · subst h2; rfl
  by_cases h3 : x = tBool
  · subst h3; rfl
  by_cases h4 : x = tFixed32
  · subst h4; rfl
  by_cases h5 : x = tSfixed64
  · subst h5; rfl
  by_cases h6 : x = tString
  · subst h6; rfl
  by_cases h7 : x = tBytes
  · subst h7; rfl
  have e : ∀ y : List UInt8, x ≠ y → (y == x) = false := fun y hy => beq_eq_false_iff_ne.2 (Ne.symm hy)
  simp only [h0, h1, h2, h3, h4, h5, h6, h7, if_false, e _ h0, e _ h1, e _ h2, e _ h3, e _ h4, e _ h5, e _ h6, e _ h7, Option.map_none]
theorem typeK_none (x : List UInt8) : (typeK x).isNone = !(plainsL.map (·.1)).contains x := by
  rw [← typeK_find]
  rw [Option.isNone_map]
  cases h : plainsL.find? fun q => q.1 == x with
  | none =>
    rw [List.find?_eq_none] at h
    simp only [Option.isNone_none]
    symm
    rw [Bool.not_eq_true', List.contains_eq_mem, decide_eq_false_iff_not]
    intro hm
    obtain ⟨q, hq, rfl⟩ := List.mem_map.1 hm
    exact absurd (h q hq) (by simp)
  | some q =>
    have h1 := List.find?_some h
    have h2 := List.mem_of_find?_eq_some h
    simp only [Option.isNone_some]
    symm
    rw [Bool.not_eq_false', List.contains_eq_mem, decide_eq_true_eq]
    exact List.mem_map.2 ⟨q, h2, by simpa using h1⟩

/-! ### What may still be taken -/

/-- Of a list what is neither barred nor among its first k. -/
def still {α : Type} [BEq α] (l bar : List α) (k : Nat) (x : α) : Bool := l.contains x && !bar.contains x && !(l.take k).contains x
theorem still_start {α : Type} [BEq α] [LawfulBEq α] (l bar : List α) : still l bar 0 = fun x => l.contains x && !bar.contains x := by funext x; simp [still]
theorem still_next {α : Type} [BEq α] [LawfulBEq α] [DecidableEq α] {l bar : List α} {k : Nat} {y : α} (h : l[k]? = some y) : (fun x => still l bar k x && decide (x ≠ y)) = still l bar (k + 1) := by
  funext x
  unfold still
  rw [List.take_add_one, h]
  by_cases hx : x = y
  · subst hx; simp
  · simp [hx]
theorem still_self {α : Type} [BEq α] [LawfulBEq α] {l bar : List α} {k : Nat} {y : α} (h : l[k]? = some y) : still l bar k y = (!bar.contains y && !(l.take k).contains y) := by
  have : l.contains y = true := by rw [List.contains_eq_mem, decide_eq_true_eq]; exact List.mem_of_getElem? h
  simp only [still, this, Bool.true_and]

/-! ### A message -/

/-- May a field be in a oneof, of so many, and be repeated, or a map? -/
def standB (ones one : Int) (rep pairs : Bool) : Bool := decide (0 ≤ one) && decide (one ≤ ones) && !(rep && pairs) && !(decide (one ≠ 0) && (rep || pairs))
theorem take_map_contains {α β : Type} [BEq β] [LawfulBEq β] (g : α → β) (l : List α) (k : Nat) (y : β) : ((l.map g).take k).contains y = (l.take k).any fun x => g x == y := by
  rw [← List.map_take, List.contains_eq_any_beq, List.any_map]
  congr 1
  funext x
  simp only [Function.comp]
  exact BEq.comm
/-! ### Names of messages and enums -/

def stillT (l : List (List UInt8)) (k : Nat) (x : List UInt8) : Bool := still l (plainsL.map (·.1)) k x
theorem stillT_self {l : List (List UInt8)} {k : Nat} {y : List UInt8} (h : l[k]? = some y) : stillT l k y = !((typeK y).isSome || (l.take k).contains y) := by
  unfold stillT
  rw [still_self h, ← typeK_none]
  cases typeK y <;> simp

/-! ### What names mean -/

/-! ### Enums -/

/-- Is the name, or the number, at place k of an enum wrong? -/
def wrongB (V : List (List UInt8)) (N : List Int) (k : Nat) (x : List UInt8) (n : Int) : Bool :=
  (V.take k).contains x || (N.take k).contains n || !(decide (-2147483648 ≤ n) && decide (n ≤ 2147483647)) || (k == 0 && n != 0)
/-! ### Schemas that may be -/

def referB (s : Sc) (kind ref : Int) : Bool := decide (0 ≤ kind) && decide (kind < 10) && decide (0 ≤ ref) && decide (ref < if kind = 9 then (s.M.length : Int) else if kind = 6 then (s.E.length : Int) else 1)
def fdMayB (s : Sc) (d : Df) : Bool := !(decide (d.key ≠ -1) && !keyedB d.key) && referB s d.kind d.ref && standB 30 d.one d.rep (decide (d.key ≠ -1))
theorem dfMay_iff (s : Sc) (d : Df) : DfMay s d ↔ numberB d.no = true ∧ fdMayB s d = true := by
  unfold fdMayB referB standB
  constructor
  · intro h
    refine ⟨h.num, ?_⟩
    have h9 := h.k9
    have hr := h.ref
    have e0 : decide (d.ref < if d.kind = 9 then (s.M.length : Int) else if d.kind = 6 then (s.E.length : Int) else 1) = true := by
      rw [decide_eq_true_eq]
      split at hr
      · rename_i h1; rw [if_pos h1]; omega
      · rename_i h1
        rw [if_neg h1]
        split at hr
        · rename_i h2; rw [if_pos h2]; omega
        · rename_i h2; rw [if_neg h2]; omega
    rw [decide_eq_true h.k0, decide_eq_true (show d.kind < 10 by omega), decide_eq_true h.r0, e0, decide_eq_true h.o0, decide_eq_true h.o30]
    rcases h.key with hk | ⟨hk, hrep⟩
    · rcases h.alone with ho | ⟨ho, -⟩
      · simp [hk, ho]
      · simp [hk, ho]
    · rcases h.alone with ho | ⟨ho, hk2⟩
      · simp [hk, ho, hrep]
      · simp [hk2, hrep]
  · rintro ⟨hn, h⟩
    simp only [Bool.and_eq_true, decide_eq_true_eq, Bool.not_eq_true', Bool.and_eq_false_iff, Bool.or_eq_false_iff, decide_eq_false_iff_not, Bool.not_eq_false', Classical.not_not] at h
    obtain ⟨⟨a1, ⟨⟨a2, a3⟩, a4⟩, a5⟩, ⟨⟨a6, a7⟩, a8⟩, a9⟩ := h
    refine ⟨hn, a2, by omega, a6, a7, a4, ?_, ?_, ?_⟩
    · split
      · rename_i h1; rw [if_pos h1] at a5; omega
      · rename_i h1
        rw [if_neg h1] at a5
        split
        · rename_i h2; rw [if_pos h2] at a5; omega
        · rename_i h2; rw [if_neg h2] at a5; omega
    · by_cases hk : d.key = -1
      · exact .inl hk
      · refine .inr ⟨?_, ?_⟩
        · rcases a1 with a1 | a1
          · exact absurd a1 hk
          · exact a1
        · rcases a8 with a8 | a8
          · exact a8
          · exact absurd a8 hk
    · rcases a9 with a9 | a9
      · exact .inl a9
      · exact .inr a9
/-- The number of the field ahead. -/
def lastNo (l : List Df) (k : Nat) : Int := if k = 0 then 0 else (l[k - 1]?.map (·.no)).getD 0
def mdNames (m : Md) : List (List UInt8) := m.F.map (·.name)
def mdAtB (s : Sc) (m : Md) (k : Nat) (d : Df) : Bool := !decide (d.no ≤ lastNo m.F k) && numberB d.no && still (mdNames m) [] k d.name && fdMayB s d
theorem mdMay_iff (s : Sc) (m : Md) : MdMay s m ↔ m.F.length ≤ 30 ∧ ∀ k d, m.F[k]? = some d → mdAtB s m k d = true := by
  constructor
  · intro h
    refine ⟨h.few, fun k d hd => ?_⟩
    have hmem := List.mem_of_getElem? hd
    obtain ⟨a1, a2⟩ := (dfMay_iff s d).1 (h.each d hmem)
    unfold mdAtB
    rw [a1, a2, still_self (by simp [mdNames, hd]), mdNames, take_map_contains]
    have e1 : decide (d.no ≤ lastNo m.F k) = false := by
      rw [decide_eq_false_iff_not]
      unfold lastNo
      split
      · have := a1
        unfold numberB at this
        simp only [Bool.and_eq_true, decide_eq_true_eq] at this
        omega
      · rename_i hk
        obtain ⟨hlt, rfl⟩ := List.getElem?_eq_some_iff.1 hd
        have := (List.pairwise_iff_getElem.1 h.rise) (k - 1) k (by omega) hlt (by omega)
        rw [List.getElem?_eq_getElem (by omega)]
        simp only [Option.map_some, Option.getD_some]
        omega
    have e2 : ((m.F.take k).any fun x => x.name == d.name) = false := by
      have h2 : (m.F.Pairwise fun a b => (a.name == b.name) = false) := h.names.imp fun {a b} hab => by simpa using hab
      exact (pair_take (R := fun a b : Df => a.name == b.name)).2 h2 k d hd
    rw [e1, e2]
    rfl
  · rintro ⟨hf, h⟩
    have hp : ∀ k d, m.F[k]? = some d → d.no > lastNo m.F k ∧ numberB d.no = true ∧ ((m.F.take k).any fun x => x.name == d.name) = false ∧ fdMayB s d = true := by
      intro k d hd
      have := h k d hd
      unfold mdAtB at this
      rw [still_self (by simp [mdNames, hd]), mdNames, take_map_contains] at this
      simp only [Bool.and_eq_true, Bool.not_eq_true', decide_eq_false_iff_not, List.contains_nil, Bool.not_false, Bool.true_and] at this
      obtain ⟨⟨⟨b1, b2⟩, b3⟩, b4⟩ := this
      exact ⟨by omega, b2, by simpa using b3, b4⟩
    refine ⟨hf, ?_, ?_, fun d hd => ?_⟩
    · rw [List.pairwise_iff_getElem]
      intro i j
      induction j with
      | zero => intro _ _ h0; omega
      | succ j ih =>
        intro hi hj hij
        have h1 := (hp (j + 1) _ (List.getElem?_eq_getElem hj)).1
        unfold lastNo at h1
        rw [if_neg (by omega), Nat.add_sub_cancel, List.getElem?_eq_getElem (by omega)] at h1
        simp only [Option.map_some, Option.getD_some] at h1
        by_cases he : i = j
        · subst he; omega
        · have := ih hi (by omega) (by omega)
          omega
    · have h2 : (m.F.Pairwise fun a b => (a.name == b.name) = false) := pair_take.1 fun k x hx => (hp k x hx).2.2.1
      exact h2.imp fun {a b} hab => by simpa using hab
    · obtain ⟨k, hk⟩ := List.mem_iff_getElem?.1 hd
      have := hp k d hk
      exact (dfMay_iff s d).2 ⟨this.2.1, this.2.2.2⟩
theorem contains_pair {α : Type} [BEq α] [LawfulBEq α] {l : List α} : (∀ k x, l[k]? = some x → (l.take k).contains x = false) ↔ l.Pairwise (· ≠ ·) := by
  have h2 : (l.Pairwise fun a b => (a == b) = false) ↔ l.Pairwise (· ≠ ·) := by
    constructor <;> intro hp <;> exact hp.imp fun {a b} hab => by simpa using hab
  rw [← h2, ← pair_take]
  have e : ∀ k x, (l.take k).contains x = (l.take k).any (· == x) := fun k x => by
    rw [List.contains_eq_any_beq]
    congr 1
    funext y
    exact BEq.comm
  simp only [e]
theorem edMay_iff (e : Ed) : EdMay e ↔ 1 ≤ e.V.length ∧ e.V.length ≤ 30 ∧ e.V.length = e.N.length ∧ ∀ k x n, e.V[k]? = some x → e.N[k]? = some n → wrongB e.V e.N k x n = false := by
  constructor
  · intro h
    refine ⟨h.some_, h.few, h.same.symm, fun k x n hx hn => ?_⟩
    unfold wrongB
    have hr := h.each n (List.mem_of_getElem? hn)
    rw [contains_pair.2 h.names k x hx, contains_pair.2 h.nums k n hn, decide_eq_true hr.1, decide_eq_true hr.2]
    by_cases hk : k = 0
    · subst hk
      have := h.zero
      rw [hn] at this
      obtain rfl := Option.some.inj this
      rfl
    · simp [hk]
  · rintro ⟨h1, h2, h3, h4⟩
    have key : ∀ k (hk : k < e.V.length), (e.V.take k).contains e.V[k] = false ∧ (e.N.take k).contains (e.N[k]'(by omega)) = false ∧ (-2147483648 ≤ (e.N[k]'(by omega)) ∧ (e.N[k]'(by omega)) ≤ 2147483647) ∧ (k = 0 → (e.N[k]'(by omega)) = 0) := by
      intro k hk
      have := h4 k _ _ (List.getElem?_eq_getElem hk) (List.getElem?_eq_getElem (by omega))
      unfold wrongB at this
      simp only [Bool.or_eq_false_iff, Bool.not_eq_false', Bool.and_eq_true, decide_eq_true_eq, Bool.and_eq_false_iff, beq_eq_false_iff_ne, bne_eq_false_iff_eq] at this
      obtain ⟨⟨⟨b1, b2⟩, b3⟩, b4⟩ := this
      exact ⟨b1, b2, b3, fun h0 => by rcases b4 with b4 | b4; exact absurd h0 b4; exact b4⟩
    refine ⟨h1, h2, h3.symm, ?_, ?_, ?_, fun n hn => ?_⟩
    · rw [List.getElem?_eq_getElem (by omega), (key 0 (by omega)).2.2.2 rfl]
    · refine contains_pair.1 fun k x hx => ?_
      obtain ⟨hk, rfl⟩ := List.getElem?_eq_some_iff.1 hx
      exact (key k hk).1
    · refine contains_pair.1 fun k x hx => ?_
      obtain ⟨hk, rfl⟩ := List.getElem?_eq_some_iff.1 hx
      exact (key k (by omega)).2.1
    · obtain ⟨k, hk⟩ := List.mem_iff_getElem?.1 hn
      obtain ⟨hk, rfl⟩ := List.getElem?_eq_some_iff.1 hk
      exact (key k (by omega)).2.2.1
theorem scMay_iff (s : Sc) : ScMay s ↔ 1 ≤ s.M.length ∧ s.M.length ≤ 20 ∧ s.E.length ≤ 20 ∧ (∀ k x, (namesS s)[k]? = some x → stillT (namesS s) k x = true) ∧ (∀ m ∈ s.M, MdMay s m) ∧ ∀ e ∈ s.E, EdMay e := by
  have key : (∀ k x, (namesS s)[k]? = some x → stillT (namesS s) k x = true) ↔ (namesS s).Pairwise (· ≠ ·) ∧ ∀ x ∈ namesS s, typeK x = none := by
    rw [← contains_pair]
    constructor
    · intro h
      have h' : ∀ k x, (namesS s)[k]? = some x → typeK x = none ∧ ((namesS s).take k).contains x = false := fun k x hx => by
        have := h k x hx
        rw [stillT_self hx] at this
        cases ht : typeK x <;> cases hc : ((namesS s).take k).contains x <;> simp_all
      exact ⟨fun k x hx => (h' k x hx).2, fun x hx => by obtain ⟨k, hk⟩ := List.mem_iff_getElem?.1 hx; exact (h' k x hk).1⟩
    · rintro ⟨h1, h2⟩ k x hx
      rw [stillT_self hx, h1 k x hx, h2 x (List.mem_of_getElem? hx)]
      rfl
  constructor
  · intro h
    exact ⟨h.some_, h.fewM, h.fewE, key.2 ⟨h.names, h.plain⟩, h.M, h.E⟩
  · rintro ⟨h1, h2, h3, h4, h5, h6⟩
    obtain ⟨k1, k2⟩ := key.1 h4
    exact ⟨h1, h2, h3, k1, k2, h5, h6⟩
end Go.Proofs.YtipaangiehdgkaaGreatDoor
/-
  A number's text: its digits, what digits spell, and what is told of digits with a sign or not.
-/
namespace Go.Proofs.YtipaangiehdgkaaGreatDoor
set_option maxRecDepth 100000

/-! ### The document's way -/

end Go.Proofs.YtipaangiehdgkaaGreatDoor
/-
  A file as a text: what is printed, by plain functions.
-/
namespace Go.Proofs.YtipaangiehdgkaaGreatDoor
set_option maxRecDepth 100000

def lineB (ps : List (List UInt8)) : List UInt8 := ps.flatten ++ [10]
def digB (n : Int) : List UInt8 := Lib.itoa n
def typeB (d : Fd) : List UInt8 := if d.key ≠ [] then ([109, 97, 112, 60] ++ d.key ++ [44, 32] ++ d.type ++ [62]) else if d.rep then ([114, 101, 112, 101, 97, 116, 101, 100, 32] ++ d.type) else d.type
def fieldB (ahead : List UInt8) (d : Fd) : List UInt8 := lineB [ahead, typeB d, [32], d.name, [32, 61, 32], digB d.no, [59]]
def fieldsB (ahead : List UInt8) (l : List Fd) : List UInt8 := (l.map (fieldB ahead)).flatten
def oneB (name : List UInt8) (l : List Fd) : List UInt8 := if l = [] then [] else lineB [[32, 32], wOneof, [32], name, [32, 123]] ++ fieldsB [32, 32, 32, 32] l ++ lineB [[32, 32], [125]]
/-- Numbers, with what stands ahead of the first one. -/
def numsB (ahead : List UInt8) : List Int → List UInt8
  | [] => []
  | n :: l => ahead ++ digB n ++ numsB [44, 32] l
def valB (v : Vl) : List UInt8 := lineB [[32, 32], v.name, [32, 61, 32], digB v.n, [59]]
end Go.Proofs.YtipaangiehdgkaaGreatDoor
/-
  Where tokens begin, and by which byte; how All ends.
-/
namespace Go.Proofs.YtipaangiehdgkaaGreatDoor
set_option maxRecDepth 100000

/-- A token at the beginning of what is left. -/
structure Good (l : List UInt8) (t : T) : Prop where
  kind : t.kind < 4
  str : t.kind = 2 ↔ l.head? = some 34
  ne : t.kind ≠ 2 → t.text ≠ []
  text : t.kind ≠ 2 → l.take t.text.length = t.text
section

variable {it : Int → List UInt8}

end

end Go.Proofs.YtipaangiehdgkaaGreatDoor
