/-
  Bytes that become a text: the conversion of a slice of bytes.
-/
import Derived.Test.YtceomdbahiimlaaDoorBytes
import Derived.Laws.BytesArg
namespace Go.Proofs.YtceomdbahiimlaaDoor
set_option maxRecDepth 100000

open Go.RowKit

def txt (l : List UInt8) : ByteArray := ⟨l.toArray⟩
theorem txt_list (l : List UInt8) : (txt l).data.toList = l := by simp [txt]
theorem txt_size (l : List UInt8) : (txt l).size = l.length := by simp [txt, ByteArray.size]
theorem txt_of (s : ByteArray) : txt s.data.toList = s := by cases s; simp [txt]
theorem run_str_of_bytes {P : Program} (w : World) (src dst e : TypeId) (hs : P.underlying src = some (.slice e)) (he : P.underlying e = some (.int .u8)) (hd : P.underlying dst = some .string)
    (A : Option Addr) (c : Nat) (l : List UInt8) (hr : SlB w A c l) : (convert src dst (.slice A l.length c)).run P w = .ok (.string (txt l)) w := by
  cases A with
  | none =>
    obtain ⟨hn, rfl, hx⟩ := Sl.none_len hr
    obtain rfl : l = [] := List.eq_nil_of_length_eq_zero hn
    exact run_convert_bytes_nil w src e hs he 0 0 dst hd
  | some ad =>
    have hm : (l.map fun b => (b.toNat : Int)).map (Value.int .u8) = bs l := by simp [bs, BV]
    have hl : (loadCells ad l.length).run P w = .ok ((l.map fun b => (b.toNat : Int)).map (Value.int .u8)).toArray w := by
      have := run_loadCells_list (P := P) w ad (bs l) (fun j v hj => Sl.cell hr ad rfl j v hj)
      rw [bs_length] at this
      rw [hm]
      exact this
    rw [run_convert_bytes_string w src dst e _ _ _ hs he hd, run_bytesToString w _ _ _ _ hl, foldl_push_bytes]
    have h2 : ((l.map fun b => (b.toNat : Int)).map fun n => UInt8.ofNat n.toNat) = l := by
      rw [List.map_map]
      conv => rhs; rw [← List.map_id l]
      refine List.map_congr_left fun b _ => ?_
      simp
    rw [h2]
    simp [txt, ByteArray.empty, ByteArray.emptyWithCapacity]
    rfl
end Go.Proofs.YtceomdbahiimlaaDoor
