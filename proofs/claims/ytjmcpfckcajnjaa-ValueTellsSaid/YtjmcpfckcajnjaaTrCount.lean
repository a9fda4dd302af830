/-
  The document's own: is a tree not too great (truffleref09.Few)?
-/
import Derived.Test.YtjmcpfckcajnjaaTrBoth
namespace Go.Proofs.Ytjmcpfckcajnjaa.T9
set_option maxRecDepth 100000

open Go.RowKit

def cS' (s : So) : Nat := sm ((s.K ++ s.V).map cV)
def cV' (v : Vl') : Nat := sm (v.M.map fun x => 1 + x.cnt)
theorem cS_eq (s : So) : cS s = 1 + cS' s := by unfold cS cS'; rw [List.map_append, sm_append]
theorem cV_eq (v : Vl') : cV v = 1 + cV' v := rfl
theorem cnt_split (m : Mg) : m.cnt = m.F.length + sm (m.F.map cS') := by
  rw [m.cnt_eq, ← sm_one m.F, ← sm_add]
  exact sm_congr fun s _ => cS_eq s
theorem cS_split (s : So) : cS' s = (s.K ++ s.V).length + sm ((s.K ++ s.V).map cV') := by
  unfold cS'
  rw [← sm_one (s.K ++ s.V), ← sm_add]
  exact sm_congr fun v _ => cV_eq v
theorem cV_split (v : Vl') : cV' v = v.M.length + sm (v.M.map Mg.cnt) := by
  unfold cV'
  rw [← sm_one v.M, ← sm_add]
/-- No message of these is deeper. -/
def DpV (d : Nat) (v : Vl') : Prop := ∀ x ∈ v.M, x.deep + 1 ≤ d
def DpS (d : Nat) (s : So) : Prop := ∀ v ∈ s.K ++ s.V, DpV d v
theorem deep_of {m : Mg} {d : Nat} (hd : 1 ≤ d) (h : ∀ s ∈ m.F, DpS d s) : m.deep ≤ d := by
  rw [m.deep_eq]
  have h1 : mx (m.F.map dS) ≤ d - 1 := by
    refine mx_le fun y hy => ?_
    obtain ⟨s, hs, rfl⟩ := List.mem_map.1 hy
    have h2 : ∀ v ∈ s.K ++ s.V, dV v ≤ d - 1 := fun v hv => by
      refine mx_le fun z hz => ?_
      obtain ⟨x, hx, rfl⟩ := List.mem_map.1 hz
      have := h s hs v hv x hx
      omega
    have h3 : mx (s.K.map dV) ≤ d - 1 := mx_le fun z hz => by
      obtain ⟨v, hv, rfl⟩ := List.mem_map.1 hz
      exact h2 v (List.mem_append.2 (.inl hv))
    have h4 : mx (s.V.map dV) ≤ d - 1 := mx_le fun z hz => by
      obtain ⟨v, hv, rfl⟩ := List.mem_map.1 hz
      exact h2 v (List.mem_append.2 (.inr hv))
    unfold dS
    omega
  omega
/-- How great a number is told at most. -/
def NB (d : Nat) : Nat := 20000000000000 + 10000 * d
/-- What is told so far: at least as many, unless it is too many already. -/
def So1 (m : Mg) (d i N : Nat) : Prop := N ≤ 3000 → m.F.length + sm ((m.F.take i).map cS') ≤ N ∧ ∀ s ∈ m.F.take i, DpS d s
def So2 (m : Mg) (d i : Nat) (L : List Vl') (k N : Nat) : Prop := N ≤ 3000 → (m.F.length + sm ((m.F.take i).map cS') + L.length + sm ((L.take k).map cV') ≤ N ∧ ∀ s ∈ m.F.take i, DpS d s) ∧ ∀ v ∈ L.take k, DpV d v
def So3 (m : Mg) (d i : Nat) (L : List Vl') (k : Nat) (M : List Mg) (j N : Nat) : Prop := N ≤ 3000 → ((m.F.length + sm ((m.F.take i).map cS') + L.length + sm ((L.take k).map cV') + M.length + sm ((M.take j).map Mg.cnt) ≤ N ∧ ∀ s ∈ m.F.take i, DpS d s) ∧ ∀ v ∈ L.take k, DpV d v) ∧ ∀ x ∈ M.take j, x.deep + 1 ≤ d
theorem mem_take_next {α : Type} {l : List α} {k : Nat} {a x : α} (h : l[k]? = some a) (hx : x ∈ l.take (k + 1)) : x ∈ l.take k ∨ x = a := by
  rw [List.take_add_one, h] at hx
  simpa using hx
theorem So3.next {m : Mg} {d i : Nat} {L : List Vl'} {k : Nat} {M : List Mg} {j N c : Nat} {x : Mg} (h : So3 m d i L k M j N) (hN : N ≤ 3000) (hx : M[j]? = some x) (hc : c ≤ 3000 → x.cnt ≤ c ∧ x.deep ≤ d - 1) (hd : 1 ≤ d) : So3 m d i L k M (j + 1) (N + c) := fun hn => by
  obtain ⟨⟨⟨h1, h2⟩, h3⟩, h4⟩ := h hN
  obtain ⟨h5, h6⟩ := hc (by omega)
  refine ⟨⟨⟨?_, h2⟩, h3⟩, fun y hy => ?_⟩
  · rw [sm_take_next Mg.cnt hx]; omega
  · rcases mem_take_next hx hy with hy | rfl
    · exact h4 y hy
    · omega
theorem So3.start {m : Mg} {d i : Nat} {L : List Vl'} {k : Nat} {M : List Mg} {N : Nat} (h : So2 m d i L k N) (hN : N ≤ 3000) : So3 m d i L k M 0 (N + M.length) := fun hn => by
  obtain ⟨⟨h1, h2⟩, h3⟩ := h hN
  exact ⟨⟨⟨by simp only [List.take_zero, List.map_nil, sm]; omega, h2⟩, h3⟩, fun y hy => by simp at hy⟩
theorem So3.done {m : Mg} {d i : Nat} {L : List Vl'} {k : Nat} {v : Vl'} {j N : Nat} (h : So3 m d i L k v.M j N) (hv : L[k]? = some v) (hj : N ≤ 3000 → j = v.M.length) : So2 m d i L (k + 1) N := fun hn => by
  obtain ⟨⟨⟨h1, h2⟩, h3⟩, h4⟩ := h hn
  obtain rfl := hj hn
  rw [List.take_length] at h1 h4
  refine ⟨⟨?_, h2⟩, fun y hy => ?_⟩
  · rw [sm_take_next cV' hv, cV_split v]; omega
  · rcases mem_take_next hv hy with hy | rfl
    · exact h3 y hy
    · exact h4
theorem So2.start {m : Mg} {d i : Nat} {L : List Vl'} {N : Nat} (h : So1 m d i N) (hN : N ≤ 3000) : So2 m d i L 0 (N + L.length) := fun hn => by
  obtain ⟨h1, h2⟩ := h hN
  exact ⟨⟨by simp only [List.take_zero, List.map_nil, sm]; omega, h2⟩, fun y hy => by simp at hy⟩
theorem So2.done {m : Mg} {d i : Nat} {s : So} {k N : Nat} (h : So2 m d i (s.K ++ s.V) k N) (hs : m.F[i]? = some s) (hk : N ≤ 3000 → k = (s.K ++ s.V).length) : So1 m d (i + 1) N := fun hn => by
  obtain ⟨⟨h1, h2⟩, h3⟩ := h hn
  obtain rfl := hk hn
  rw [List.take_length] at h1 h3
  refine ⟨?_, fun y hy => ?_⟩
  · rw [sm_take_next cS' hs, cS_split s]; omega
  · rcases mem_take_next hs hy with hy | rfl
    · exact h2 y hy
    · exact h3
theorem So1.start (m : Mg) (d : Nat) : So1 m d 0 m.F.length := fun _ => ⟨by simp [sm], fun y hy => by simp at hy⟩
theorem So1.done {m : Mg} {d i N : Nat} (h : So1 m d i N) (hi : N ≤ 3000 → i = m.F.length) (hd : 1 ≤ d) : N ≤ 3000 → m.cnt ≤ N ∧ m.deep ≤ d := fun hn => by
  obtain ⟨h1, h2⟩ := h hn
  obtain rfl := hi hn
  rw [List.take_length] at h1 h2
  exact ⟨by rw [cnt_split]; exact h1, deep_of hd h2⟩
end Go.Proofs.Ytjmcpfckcajnjaa.T9
