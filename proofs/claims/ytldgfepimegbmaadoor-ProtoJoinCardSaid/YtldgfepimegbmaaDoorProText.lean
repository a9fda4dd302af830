/-
  A file as a text: what is printed, by plain functions.
-/
import Derived.Test.YtldgfepimegbmaaDoorProMath
import Derived.Test.YtldgfepimegbmaaDoorTokNum
namespace Go.Proofs.YtldgfepimegbmaaDoor
set_option maxRecDepth 100000

def lineB (ps : List (List UInt8)) : List UInt8 := ps.flatten ++ [10]
def digB (n : Int) : List UInt8 := Lib.itoa n
def typeB (d : Fd) : List UInt8 := if d.key ≠ [] then ([109, 97, 112, 60] ++ d.key ++ [44, 32] ++ d.type ++ [62]) else if d.rep then ([114, 101, 112, 101, 97, 116, 101, 100, 32] ++ d.type) else d.type
def fieldB (ahead : List UInt8) (d : Fd) : List UInt8 := lineB [ahead, typeB d, [32], d.name, [32, 61, 32], digB d.no, [59]]
def fieldsB (ahead : List UInt8) (l : List Fd) : List UInt8 := (l.map (fieldB ahead)).flatten
def oneB (name : List UInt8) (l : List Fd) : List UInt8 := if l = [] then [] else lineB [[32, 32], wOneof, [32], name, [32, 123]] ++ fieldsB [32, 32, 32, 32] l ++ lineB [[32, 32], [125]]
/-- Numbers, with what stands ahead of the first one. -/
def numsB (ahead : List UInt8) : List Int → List UInt8
  | [] => []
  | n :: l => ahead ++ digB n ++ numsB [44, 32] l
def resB (l : List Int) : List UInt8 := [32, 32, 114, 101, 115, 101, 114, 118, 101, 100] ++ numsB [32] l ++ lineB [[59]]
def inOne (n : Nat) (d : Fd) : Bool := decide (0 < d.one) && decide (d.one ≤ n)
/-- The fields of each oneof. -/
def memStep (n : Nat) (ms : List (List Fd)) (d : Fd) : List (List Fd) := if inOne n d then ms.set (d.one - 1) (ms.getD (d.one - 1) [] ++ [d]) else ms
def memsB (n : Nat) (l : List Fd) : List (List Fd) := l.foldl (memStep n) (List.replicate n [])
theorem memStep_length (n : Nat) (ms : List (List Fd)) (d : Fd) : (memStep n ms d).length = ms.length := by unfold memStep; split <;> simp
theorem memsB_take (n : Nat) (l : List Fd) (k : Nat) (d : Fd) (h : l[k]? = some d) : memsB n (l.take (k + 1)) = memStep n (memsB n (l.take k)) d := by
  rw [List.take_add_one, h]; simp [memsB, List.foldl_append]
theorem foldl_length (n : Nat) : ∀ (l : List Fd) (ms : List (List Fd)), (l.foldl (memStep n) ms).length = ms.length
  | [], _ => rfl
  | d :: l, ms => by rw [List.foldl_cons, foldl_length n l, memStep_length]
theorem memsB_length (n : Nat) (l : List Fd) : (memsB n l).length = n := by rw [memsB, foldl_length]; simp
theorem foldl_few (n : Nat) : ∀ (l : List Fd) (ms : List (List Fd)) (k : Nat), ((l.foldl (memStep n) ms).getD k []).length ≤ (ms.getD k []).length + l.length
  | [], _, _ => by simp
  | d :: l, ms, k => by
    rw [List.foldl_cons]
    have := foldl_few n l (memStep n ms d) k
    have h2 : ((memStep n ms d).getD k []).length ≤ (ms.getD k []).length + 1 := by
      unfold memStep
      split
      · simp only [List.getD_eq_getElem?_getD, List.getElem?_set]
        split
        · rename_i h3
          subst h3
          split
          · simp
          · simp
        · omega
      · omega
    simp only [List.length_cons]
    omega
theorem memsB_few (n : Nat) (l : List Fd) (k : Nat) : ((memsB n l).getD k []).length ≤ l.length := by
  have := foldl_few n l (List.replicate n []) k
  have h : ((List.replicate n ([] : List Fd)).getD k []).length = 0 := by
    rw [List.getD_eq_getElem?_getD, List.getElem?_replicate]
    split <;> rfl
  unfold memsB
  omega
/-- The items, one after the other: all that are in a oneof stand at the first of them. -/
def itemsB (ones : List (List UInt8)) : List (List Fd) → List Fd → List UInt8
  | _, [] => []
  | ms, d :: l => if inOne ones.length d then oneB (ones.getD (d.one - 1) []) (ms.getD (d.one - 1) []) ++ itemsB ones (ms.set (d.one - 1) []) l else fieldB [32, 32] d ++ itemsB ones ms l
def messageB (m : Ms) : List UInt8 := lineB [wMessage, [32], m.name, [32, 123]] ++ itemsB m.ones (memsB m.ones.length m.F) m.F ++ (if m.res = [] then [] else resB m.res) ++ lineB [[125]]
def valB (v : Vl) : List UInt8 := lineB [[32, 32], v.name, [32, 61, 32], digB v.n, [59]]
def enumB (e : En) : List UInt8 := lineB [wEnum, [32], e.name, [32, 123]] ++ (e.V.map valB).flatten ++ lineB [[125]]
def fileB (f : Fl) : List UInt8 := (f.M.map messageB).flatten ++ (f.E.map enumB).flatten
theorem numsB_snoc (a : List UInt8) (l : List Int) (n : Int) : numsB a (l ++ [n]) = numsB a l ++ ((if l = [] then a else [44, 32]) ++ digB n) := by
  induction l generalizing a with
  | nil => simp [numsB]
  | cons x l ih =>
    rw [List.cons_append, numsB, ih]
    simp only [numsB, List.append_assoc, reduceCtorEq, if_false]
    split <;> rfl
end Go.Proofs.YtldgfepimegbmaaDoor
