/-
  Slices of bytes that read as lists of bytes.
-/
import Derived.Test.YtceomdbahiimlaaDoorBase
namespace Go.Proofs.YtceomdbahiimlaaDoor
set_option maxRecDepth 100000

open Go.ChangeShapes Go.WideShapes Go.ChangeAt Go.RowKit

/-! ### Bytes -/

def BV (b : UInt8) : Value := .int .u8 (b.toNat : Int)
def bs (l : List UInt8) : List Value := l.map BV
theorem bs_append (a b : List UInt8) : bs (a ++ b) = bs a ++ bs b := by simp [bs]
theorem bs_length (a : List UInt8) : (bs a).length = a.length := by simp [bs]
theorem bs_get (a : List UInt8) (k : Nat) : (bs a)[k]? = a[k]?.map BV := by simp [bs]
theorem bs_inj {a b : List UInt8} (h : bs a = bs b) : a = b := by
  induction a generalizing b with
  | nil => cases b with
    | nil => rfl
    | cons y b => simp [bs] at h
  | cons x a ih => cases b with
    | nil => simp [bs] at h
    | cons y b =>
      simp only [bs, List.map_cons, List.cons.injEq, BV, Value.int.injEq, true_and] at h
      obtain rfl := UInt8.toNat_inj.1 (show x.toNat = y.toNat by omega)
      rw [ih h.2]
theorem bs_one (a : List UInt8) : ∀ u ∈ bs a, u.oneCell' = true := by
  intro u hu
  obtain ⟨b, _, rfl⟩ := List.mem_map.1 hu
  rfl

/-- A slice of bytes that reads as the list l. -/
def SlB (w : World) (A : Option Addr) (c : Nat) (l : List UInt8) : Prop := Sl w A l.length c 1 (bs l)
theorem SlB.on {w w' : World} {A : Option Addr} {c : Nat} {l : List UInt8} (h : SlB w A c l) (hb : Below w.heap.size w w') : SlB w' A c l := Sl.on h hb
theorem SlB.lit {w : World} {A : Option Addr} {c : Nat} {l : List UInt8} (h : SlB w A c l) (o : Obj) : SlB (w.alloc o) A c l := h.on (below_new w o)
theorem SlB.drew {w : World} {A : Option Addr} {c : Nat} {l : List UInt8} (h : SlB w A c l) : SlB w.drew A c l := h.on (Below.refl _ _).drew
theorem SlB.le {w : World} {A : Option Addr} {c : Nat} {l : List UInt8} (h : SlB w A c l) : l.length ≤ c := Sl.le h
theorem SlB.small {w : World} {A : Option Addr} {c : Nat} {l : List UInt8} (h : SlB w A c l) : l.length ≤ 9223372036854775807 ∧ c ≤ 9223372036854775807 := by
  have h1 := Sl.le h
  have h2 := Sl.cap h
  unfold maxLen at h2
  omega
/-- The byte at k: its address, and its cell. -/
theorem SlB.at_ {w : World} {A : Option Addr} {c : Nat} {l : List UInt8} (h : SlB w A c l) {k : Nat} (hk : k < l.length) : ∃ ad b, A = some ad ∧ ad.block < w.heap.size ∧ l[k]? = some b ∧ w.cell? (ad.add k) = some (.int .u8 (b.toNat : Int)) := by
  obtain ⟨ad, rfl, hb, hcell⟩ := Sl.there h (by omega)
  exact ⟨ad, l[k], rfl, hb, List.getElem?_eq_getElem hk, hcell k _ (by rw [bs_get, List.getElem?_eq_getElem hk]; rfl)⟩
theorem SlB.of_own {w : World} {base : Nat} {e : TypeId} {v : Value} {l : List UInt8} (h : w.ownsRow base e 1 v l.length (bs l)) : ∃ A c, v = .slice A l.length c ∧ SlB w A c l := Sl.of_own h
theorem SlB.nil (w : World) : SlB w none 0 [] := Sl.nothing w 1

theorem info_u8 : (Tryd.prog.info? 5).map (fun i => (i.zero, i.size, i.bytes)) = some (some (.int .u8 0), 1, 1) := by kernel_rfl
theorem open_u8 {H : Type} {enc : TypeId × Value → H} {W : World} {base : Nat} {v : Value} {d : DataW H} {ps : List MemPlace}
    (hval : Value.okWide Tryd.prog W .any base 5 v) (h : DataW.Trod enc Tryd.prog W 0 (fun _ => true) true 5 v d ps) : ∃ n : Nat, v = .int .u8 (n : Int) ∧ n < 256 := by
  obtain ⟨a, rfl, rfl, rfl, wf⟩ := open_int Tryd.underlying5 hval h
  have hb := bounds_u8 wf
  obtain ⟨n, rfl⟩ := Int.eq_ofNat_of_zero_le hb.1
  exact ⟨n, rfl, by omega⟩
theorem cells_u8 : Tryd.prog.cellsOf 5 = 1 := by kernel_rfl
theorem bs_of_ints (zs : List Int) (h : ∀ n ∈ zs, (Lit.int .u8 n).wf = true) : ∃ l : List UInt8, zs.map (Value.int .u8) = bs l := by
  induction zs with
  | nil => exact ⟨[], rfl⟩
  | cons z zs ih =>
    obtain ⟨l, hl⟩ := ih (fun n hn => h n (by simp [hn]))
    have hb := bounds_u8 (h z (by simp))
    refine ⟨UInt8.ofNat z.toNat :: l, ?_⟩
    simp only [List.map_cons, bs, List.cons.injEq]
    refine ⟨?_, by simpa [bs] using hl⟩
    simp only [BV, Value.int.injEq, true_and]
    rw [UInt8.toNat_ofNat']
    omega
theorem open_bytes {H : Type} {enc : TypeId × Value → H} {W : World} {base : Nat} {v : Value} {d : DataW H} {ps : List MemPlace}
    (hval : Value.okWide Tryd.prog W .any base 53 v) (h : DataW.Trod enc Tryd.prog W 0 (fun _ => true) true 53 v d ps) :
    ∃ (A : Option Addr) (c : Nat) (l : List UInt8), v = .slice A l.length c ∧ SlB W A c l := by
  obtain ⟨a0, len, cap, rfl⟩ := okWide_slice Tryd.underlying53 hval
  obtain ⟨fuel, hf⟩ := h
  rcases open_ints Tryd.underlying53 Tryd.underlying5 cells_u8 hf with ⟨hcs, hx⟩ | ⟨a, len', cap', zs, hcs, _, hl, hm, hz, hx, hcell, hwz⟩
  · simp [Value.cells] at hcs
    obtain ⟨rfl, rfl, rfl⟩ := hcs
    exact ⟨none, 0, [], rfl, SlB.nil W⟩
  · simp [Value.cells] at hcs
    obtain ⟨rfl, rfl, rfl⟩ := hcs
    simp only [if_true] at hz
    obtain ⟨l, hl2⟩ := bs_of_ints (zs.take len) (fun n hn => hwz n (List.mem_of_mem_take hn))
    have hlen : l.length = len := by
      have := congrArg List.length hl2
      simp [bs] at this
      omega
    subst hlen
    refine ⟨some a, cap, l, rfl, by simp [bs], hl, hm, by simp, fun ad ha hn => ?_, fun ad ha k u hu => ?_⟩
    · obtain rfl := Option.some.inj ha
      have hb := World.block_lt_of_cell? W _ (hcell 0 (by omega))
      rwa [add_same_block] at hb
    · obtain rfl := Option.some.inj ha
      rw [← hl2] at hu
      have hk : k < l.length := by
        have := (List.getElem?_eq_some_iff.1 hu).1
        simp at this
        omega
      rw [hcell k (by omega)]
      rw [List.getElem?_map, List.getElem?_take, if_pos hk] at hu
      obtain ⟨z, hz2, rfl⟩ := Option.map_eq_some_iff.1 hu
      simp [List.getD, hz2]
theorem lit_reads (w : World) (l : List UInt8) (hl : l.length ≤ 100) : SlB (w.alloc (.cells (bs l).toArray 5)) (some ⟨w.heap.size, 0, none⟩) l.length l := by
  have h := Sl.new w (bs l) 5 (by rw [bs_length]; unfold maxLen; omega)
  rw [bs_length] at h
  exact h

end Go.Proofs.YtceomdbahiimlaaDoor
