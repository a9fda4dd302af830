/-
 What Decode tells of bytes twice,one behind the other.
-/
import Derived.Test.YtckcojkpghiclaaGreatDoorDtMath
import Derived.Test.YtckcojkpghiclaaGreatDoorTrSet
namespace Go.Proofs.YtckcojkpghiclaaGreatDoor.T11
set_option maxRecDepth 100000
open Go.Proofs.YtckcojkpghiclaaGreatDoor.T9 Go.Proofs.YtckcojkpghiclaaGreatDoor.T4
theorem twice_law {s:Sc} {m:Int} {b:List UInt8} (hb:b.length ≤ 2000) {X:Mg} (h:toldE s m b = .ok X) :
  ∃ Y,toldE s m (b ++ b) = .ok Y ∧ X.F.length = Y.F.length ∧ ∀ (i:Nat) (a c:So),X.F[i]? = some a → Y.F[i]? = some c → ∃ f,byS s m a.no = some f ∧ Rel f a c:=by
 have hv:ScMay s ∧ 0 ≤ m ∧ m < s.M.length:=Classical.byContradiction fun g=>by rw [told_not g] at h; cases h
 rw [told_of hv] at h
 cases hx:decM s 64 m b (.mk []) with
 | error e=>rw [hx] at h; cases h
 | ok x =>
  rw [hx] at h
  obtain rfl:=Except.ok.inj h
  have hd:=hx
  obtain ⟨F,hF,rfl⟩:=mapE_ok (show mapE (fun l=>Mg.mk l) (decR (fieldD (byS s m) 63 (decM s 63)) b []) = .ok x from hd)
  have split:∀ {F:List So},isB s 64 m (.mk F) = true → slotsG (byS s m) (fillG (isB s 63)) [] F = true:=fun {F} h=>by
   have h2:(decide (0 ≤ m ∧ m < s.M.length) && slotsG (byS s m) (fillG (isB s 63)) [] F) = true:=h
   exact (Bool.and_eq_true _ _ ▸ h2).2
  have sF:=split (taken_is hv (by omega) hx).1
  have hno:∀ no f,byS s m no = some f → f.no = no:=fun no f hf=>(by_may hv.1 hf).2
  have hal:∀ no f,byS s m no = some f → ¬ Sngl f → f.one = 0:=fun no f hf hs=>by
   have hd:=(by_may hv.1 hf).1
   rcases hd.alone with h | ⟨h1,h2⟩
   ·exact h
   ·exact absurd ⟨h2,h1⟩ hs
  have I0:Two (byS s m) F [] F:=⟨fun no f hf hs=>⟨fun t ht=>(by cases ht),slots_shp sF hf hs,.inr ⟨rfl,rfl⟩⟩,fun no f hf hs=>⟨by simp [vw],by simp [vw,kO],by simp [vw,vO]⟩⟩
  obtain ⟨B,hB,I⟩:=decR_two (fun d r x y=>fieldD_er (byS s m) 63 (decM_er s 63) d r x y) (Two (byS s m) F) (field_two hno hal 63 (decM s 63) F) b.length b [] F F (Nat.le_refl _) I0 hF
  have hxx:decM s 64 m (b ++ b) (.mk []) = .ok (.mk B):=by
   rw [decM_append s 64 m b b _ _ hx]
   show mapE (fun l=>Mg.mk l) (decR (fieldD (byS s m) 63 (decM s 63)) b F) = _
   rw [hB]
   rfl
  have sB:=split (taken_is hv (by rw [List.length_append]; omega) hxx).1
  refine ⟨norB s 64 m (.mk B),by rw [told_of hv,hxx],?_⟩
  exact norF_two (norB s 63) (fun no f hf hk=>(may_key (by_may hv.1 hf).1 hk).2.2.2.1) sF sB I
theorem twice_err {s:Sc} {m:Int} {b:List UInt8} {e:Nat} (h:toldE s m b = .error e):e = 6 ∨ toldE s m (b ++ b) = .error e:=by
 by_cases hv:ScMay s ∧ 0 ≤ m ∧ m < s.M.length
 ·rw [told_of hv] at h
  rw [told_of hv]
  cases hx:decM s 64 m b (.mk []) with
  | ok x=>rw [hx] at h; cases h
  | error e' =>
   rw [hx] at h
   obtain rfl:=Except.error.inj h
   rcases decM_bad s 64 m b b _ _ hx with h1 | h1
   ·exact .inl h1
   ·right
    rw [h1]
 ·rw [told_not hv] at h ⊢
  exact .inr h
end Go.Proofs.YtckcojkpghiclaaGreatDoor.T11
namespace Go.Proofs.YtckcojkpghiclaaGreatDoor.T11
set_option maxRecDepth 100000
open Go.ChangeShapes Go.WideShapes Go.ChangeAt Go.RowKit
open Go.Proofs.YtckcojkpghiclaaGreatDoor.T9
theorem set_step {w w':World} {q:Nat} (h:w.grownBy w' (some q)) (k:Nat) (v:Value):w.grownBy (w'.setCell ⟨q,k,none⟩ v) (some q) :=
 ⟨h.os,h.tape,h.output,Nat.le_trans h.size (by simp),fun j hj hk=>(heap_setCell_other w' ⟨q,k,none⟩ j v (fun e=>hk (by rw [e]))).trans (h.block j hj hk)⟩
theorem seven_set {w:World} {q:Nat} {a b c d e f g:Value} {t:TypeId} (h:w.heap[q]? = some (.cells #[a,b,c,d,e,f,g] t (0,0))) (a' b' c' d' e' f' g':Value) :
  (((((((w.setCell ⟨q,0,none⟩ a').setCell ⟨q,1,none⟩ b').setCell ⟨q,2,none⟩ c').setCell ⟨q,3,none⟩ d').setCell ⟨q,4,none⟩ e').setCell ⟨q,5,none⟩ f').setCell ⟨q,6,none⟩ g').heap[q]? = some (.cells #[a',b',c',d',e',f',g'] t (0,0)) ∧
  w.grownBy (((((((w.setCell ⟨q,0,none⟩ a').setCell ⟨q,1,none⟩ b').setCell ⟨q,2,none⟩ c').setCell ⟨q,3,none⟩ d').setCell ⟨q,4,none⟩ e').setCell ⟨q,5,none⟩ f').setCell ⟨q,6,none⟩ g') (some q):=by
 have h1:(w.setCell ⟨q,0,none⟩ a').heap[q]? = some (.cells #[a',b,c,d,e,f,g] t (0,0)):=Go.heap_setCell_same w q 0 #[a,b,c,d,e,f,g] t a' h
 generalize hw1:w.setCell ⟨q,0,none⟩ a' = w1 at *
 have g1:w.grownBy w1 (some q):=by rw [← hw1]; exact set_step (World.grownBy.refl w _) 0 a'
 clear hw1 h
 have h2:(w1.setCell ⟨q,1,none⟩ b').heap[q]? = some (.cells #[a',b',c,d,e,f,g] t (0,0)):=Go.heap_setCell_same w1 q 1 _ t b' h1
 generalize hw2:w1.setCell ⟨q,1,none⟩ b' = w2 at *
 have g2:w.grownBy w2 (some q):=by rw [← hw2]; exact set_step g1 1 b'
 clear hw2 h1 g1
 have h3:(w2.setCell ⟨q,2,none⟩ c').heap[q]? = some (.cells #[a',b',c',d,e,f,g] t (0,0)):=Go.heap_setCell_same w2 q 2 _ t c' h2
 generalize hw3:w2.setCell ⟨q,2,none⟩ c' = w3 at *
 have g3:w.grownBy w3 (some q):=by rw [← hw3]; exact set_step g2 2 c'
 clear hw3 h2 g2
 have h4:(w3.setCell ⟨q,3,none⟩ d').heap[q]? = some (.cells #[a',b',c',d',e,f,g] t (0,0)):=Go.heap_setCell_same w3 q 3 _ t d' h3
 generalize hw4:w3.setCell ⟨q,3,none⟩ d' = w4 at *
 have g4:w.grownBy w4 (some q):=by rw [← hw4]; exact set_step g3 3 d'
 clear hw4 h3 g3
 have h5:(w4.setCell ⟨q,4,none⟩ e').heap[q]? = some (.cells #[a',b',c',d',e',f,g] t (0,0)):=Go.heap_setCell_same w4 q 4 _ t e' h4
 generalize hw5:w4.setCell ⟨q,4,none⟩ e' = w5 at *
 have g5:w.grownBy w5 (some q):=by rw [← hw5]; exact set_step g4 4 e'
 clear hw5 h4 g4
 have h6:(w5.setCell ⟨q,5,none⟩ f').heap[q]? = some (.cells #[a',b',c',d',e',f',g] t (0,0)):=Go.heap_setCell_same w5 q 5 _ t f' h5
 generalize hw6:w5.setCell ⟨q,5,none⟩ f' = w6 at *
 have g6:w.grownBy w6 (some q):=by rw [← hw6]; exact set_step g5 5 f'
 exact ⟨Go.heap_setCell_same w6 q 6 _ t g' h6,set_step g6 6 g'⟩
end Go.Proofs.YtckcojkpghiclaaGreatDoor.T11
