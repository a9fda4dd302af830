/-
  NARROWER THAN 'FOR EVERY INPUT', by the rows' own cells (each row's printed sentence says how): RecordTells: laid · RecordBack: laid · RecordParts: laid · RecordCut: laid · RecordMany: laid · RecordOne: laid.
  DERIVED. THE GIVEN ROWS OF THIS SEAT. 6 by the template 'for every input the law returns true; each argument reads behind the call as it read before'; 0 by the template 'total and deterministic' (their statements: YtpaggpcpflmpcaaDoorTotals.lean).
  GIVEN WITH THE SEED: the statements are not yours to turn. If you find one false, say at which input.
  Laid BY PROGRAM, IN A SANDBOX (cutbox-rows.mjs): the forced cells as the released guide's own fill.sh prints them over the translation 40a2d811d768ebb5… (all of the seat's roots in one cut). By AI agents, Wed Nov 11 2026. No macro, syntax, notation, axiom, sorry.
-/
import Derived.Test.YtpaggpcpflmpcaaDoorChecked
import GoSem.Claim
import GoSem.ClaimJoined
import GoSem.ClaimMapViews
import Derived.JoinedTies
import Derived.KernelRfl
namespace Go.Proofs.YtpaggpcpflmpcaaDoor
/- THE CELL 'sum', in the pinned program and in every row, IS THE sha256 OF THE DUMP (.gsa) THAT YtpaggpcpflmpcaaDoorProg.lean LOADS. Nothing in Lean hashes anything: it is a label: what it is worth is what the hold of that sum in a sandbox is worth. -/
noncomputable def Tryd.pinned : Pinned := { name := "ytpaggpcpflmpcaadoor", sum := "40a2d811d768ebb5c81aad887aff5784e6a05e3a8d96f73d4511e48ee306e66a", checked := Tryd.checked }
namespace Rows
def none {H : Type} : Left H := { results := [], args := [] }

/- WHAT THE LISTED PACKAGE-LEVEL VARIABLES READ AS WHEN THE CALL BEGINS. Each datum BY PROGRAM (the guide's laid-datum.mjs) off the statement by which the dump's own 'gosem.cut.vars' lays the variable. In a bare row this is a premise. The card (YtpaggpcpflmpcaaDoorCards.lean) ties it to the program's text. -/
def laid_truffle_tag_wires {H : Type} : DataW H := .agg [.lit (.int .i64 0), .lit (.int .i64 1), .lit (.int .i64 2), .lit (.int .i64 5)]

/-- 'trufflelaw05.RecordTells': WHATEVER THE INPUT: true; the input reads as it did. -/
def recordTellsSpec : ChangeSpec := { name := "recordTells", fn := fun _ => fun
  | [d1, d2, d3, d4, d5] => { results := [.lit (.bool true)], args := [d1, d2, d3, d4, d5] }
  | _ => none }
def recordTellsRow : OpenClaim := { program := "ytpaggpcpflmpcaadoor", sum := "40a2d811d768ebb5c81aad887aff5784e6a05e3a8d96f73d4511e48ee306e66a", func := "truffle/trufflelaw05.RecordTells", spec := "recordTells", unfollowed := true, recurses := true, named := ["truffle/tag.wires"], apart := false, laid := [("truffle/tag.wires", laid_truffle_tag_wires)] }
def RecordTellsSaid : Prop := recordTellsRow.holds Tryd.pinned (OpenSpec.ofChange recordTellsSpec)

/-- ITS FALSE NEIGHBOUR: 'it returns false'. Refute it at one input. -/
def recordTellsWrong : ChangeSpec := { name := "recordTells", fn := fun _ => fun
  | [d1, d2, d3, d4, d5] => { results := [.lit (.bool false)], args := [d1, d2, d3, d4, d5] }
  | _ => none }
def RecordTellsWrongFalsely : Prop := recordTellsRow.holds Tryd.pinned (OpenSpec.ofChange recordTellsWrong)

/-- 'trufflelaw05.RecordBack': WHATEVER THE INPUT: true; the input reads as it did. -/
def recordBackSpec : ChangeSpec := { name := "recordBack", fn := fun _ => fun
  | [d1, d2, d3] => { results := [.lit (.bool true)], args := [d1, d2, d3] }
  | _ => none }
def recordBackRow : OpenClaim := { program := "ytpaggpcpflmpcaadoor", sum := "40a2d811d768ebb5c81aad887aff5784e6a05e3a8d96f73d4511e48ee306e66a", func := "truffle/trufflelaw05.RecordBack", spec := "recordBack", named := ["truffle/tag.wires"], apart := false, laid := [("truffle/tag.wires", laid_truffle_tag_wires)] }
def RecordBackSaid : Prop := recordBackRow.holds Tryd.pinned (OpenSpec.ofChange recordBackSpec)

/-- ITS FALSE NEIGHBOUR: 'it returns false'. Refute it at one input. -/
def recordBackWrong : ChangeSpec := { name := "recordBack", fn := fun _ => fun
  | [d1, d2, d3] => { results := [.lit (.bool false)], args := [d1, d2, d3] }
  | _ => none }
def RecordBackWrongFalsely : Prop := recordBackRow.holds Tryd.pinned (OpenSpec.ofChange recordBackWrong)

/-- 'trufflelaw05.RecordParts': WHATEVER THE INPUT: true; the input reads as it did. -/
def recordPartsSpec : ChangeSpec := { name := "recordParts", fn := fun _ => fun
  | [d1, d2] => { results := [.lit (.bool true)], args := [d1, d2] }
  | _ => none }
def recordPartsRow : OpenClaim := { program := "ytpaggpcpflmpcaadoor", sum := "40a2d811d768ebb5c81aad887aff5784e6a05e3a8d96f73d4511e48ee306e66a", func := "truffle/trufflelaw05.RecordParts", spec := "recordParts", unfollowed := true, recurses := true, named := ["truffle/tag.wires"], apart := false, laid := [("truffle/tag.wires", laid_truffle_tag_wires)] }
def RecordPartsSaid : Prop := recordPartsRow.holds Tryd.pinned (OpenSpec.ofChange recordPartsSpec)

/-- ITS FALSE NEIGHBOUR: 'it returns false'. Refute it at one input. -/
def recordPartsWrong : ChangeSpec := { name := "recordParts", fn := fun _ => fun
  | [d1, d2] => { results := [.lit (.bool false)], args := [d1, d2] }
  | _ => none }
def RecordPartsWrongFalsely : Prop := recordPartsRow.holds Tryd.pinned (OpenSpec.ofChange recordPartsWrong)

/-- 'trufflelaw05.RecordCut': WHATEVER THE INPUT: true; the input reads as it did. -/
def recordCutSpec : ChangeSpec := { name := "recordCut", fn := fun _ => fun
  | [d1, d2, d3] => { results := [.lit (.bool true)], args := [d1, d2, d3] }
  | _ => none }
def recordCutRow : OpenClaim := { program := "ytpaggpcpflmpcaadoor", sum := "40a2d811d768ebb5c81aad887aff5784e6a05e3a8d96f73d4511e48ee306e66a", func := "truffle/trufflelaw05.RecordCut", spec := "recordCut", named := ["truffle/tag.wires"], apart := false, laid := [("truffle/tag.wires", laid_truffle_tag_wires)] }
def RecordCutSaid : Prop := recordCutRow.holds Tryd.pinned (OpenSpec.ofChange recordCutSpec)

/-- ITS FALSE NEIGHBOUR: 'it returns false'. Refute it at one input. -/
def recordCutWrong : ChangeSpec := { name := "recordCut", fn := fun _ => fun
  | [d1, d2, d3] => { results := [.lit (.bool false)], args := [d1, d2, d3] }
  | _ => none }
def RecordCutWrongFalsely : Prop := recordCutRow.holds Tryd.pinned (OpenSpec.ofChange recordCutWrong)

/-- 'trufflelaw05.RecordMany': WHATEVER THE INPUT: true; the input reads as it did. -/
def recordManySpec : ChangeSpec := { name := "recordMany", fn := fun _ => fun
  | [d] => { results := [.lit (.bool true)], args := [d] }
  | _ => none }
def recordManyRow : OpenClaim := { program := "ytpaggpcpflmpcaadoor", sum := "40a2d811d768ebb5c81aad887aff5784e6a05e3a8d96f73d4511e48ee306e66a", func := "truffle/trufflelaw05.RecordMany", spec := "recordMany", unfollowed := true, recurses := true, named := ["truffle/tag.wires"], apart := false, laid := [("truffle/tag.wires", laid_truffle_tag_wires)] }
def RecordManySaid : Prop := recordManyRow.holds Tryd.pinned (OpenSpec.ofChange recordManySpec)

/-- ITS FALSE NEIGHBOUR: 'it returns false'. Refute it at one input. -/
def recordManyWrong : ChangeSpec := { name := "recordMany", fn := fun _ => fun
  | [d] => { results := [.lit (.bool false)], args := [d] }
  | _ => none }
def RecordManyWrongFalsely : Prop := recordManyRow.holds Tryd.pinned (OpenSpec.ofChange recordManyWrong)

/-- 'trufflelaw05.RecordOne': WHATEVER THE INPUT: true; the input reads as it did. -/
def recordOneSpec : ChangeSpec := { name := "recordOne", fn := fun _ => fun
  | [d1, d2, d3, d4] => { results := [.lit (.bool true)], args := [d1, d2, d3, d4] }
  | _ => none }
def recordOneRow : OpenClaim := { program := "ytpaggpcpflmpcaadoor", sum := "40a2d811d768ebb5c81aad887aff5784e6a05e3a8d96f73d4511e48ee306e66a", func := "truffle/trufflelaw05.RecordOne", spec := "recordOne", named := ["truffle/tag.wires"], apart := false, laid := [("truffle/tag.wires", laid_truffle_tag_wires)] }
def RecordOneSaid : Prop := recordOneRow.holds Tryd.pinned (OpenSpec.ofChange recordOneSpec)

/-- ITS FALSE NEIGHBOUR: 'it returns false'. Refute it at one input. -/
def recordOneWrong : ChangeSpec := { name := "recordOne", fn := fun _ => fun
  | [d1, d2, d3, d4] => { results := [.lit (.bool false)], args := [d1, d2, d3, d4] }
  | _ => none }
def RecordOneWrongFalsely : Prop := recordOneRow.holds Tryd.pinned (OpenSpec.ofChange recordOneWrong)

/- THE SECOND FORM. 'bulk': how many values and letters a reading holds, each counted each time it is reached (what is shared counts as often as it is met; a slice's spare places count too). A statement '..UptoSaid' is the law's where the arguments, and the package variables that the reading takes, are together of bulk at most 1048576: NARROWER than '..Said'. Prove '..Said' where nothing that the law and all that it calls make is longer than what came in: it says more and counts as full. Else prove '..UptoSaid'. A law counts once. -/
mutual
def uptoBulk {H : Type} : DataW H → Nat
  | .lit (.string bytes) => bytes.length + 1
  | .lit _ => 1
  | .nil => 1
  | .ptr d => uptoBulk d + 1
  | .slice elems spare => uptoBulkAll elems + uptoBulkAll spare + 1
  | .agg parts => uptoBulkAll parts + 1
  | .iface _ d => uptoBulk d + 1
  | .map entries => uptoBulkEntries entries + 1
  | .held _ => 1
def uptoBulkAll {H : Type} : List (DataW H) → Nat
  | [] => 0
  | d :: r => uptoBulk d + uptoBulkAll r
def uptoBulkEntries {H : Type} : List (Lit × DataW H) → Nat
  | [] => 0
  | x :: r => uptoBulkEntry x + uptoBulkEntries r
def uptoBulkEntry {H : Type} : Lit × DataW H → Nat
  | (.string bytes, d) => bytes.length + uptoBulk d + 1
  | (_, d) => uptoBulk d + 1
 end
def uptoSmall : (H : Type) → List (DataW H) → Bool := fun _ ds => decide (uptoBulkAll ds ≤ 1048576)
def OpenSpec.upto (s : _root_.Go.ChangeSpec) : _root_.Go.OpenSpec := { _root_.Go.OpenSpec.ofChange s with cond := some uptoSmall }

/-- 'trufflelaw05.RecordTells', WHERE WHAT IT READS IS OF BULK AT MOST 1048576: true; the input reads as it did. -/
def recordTellsUptoRow : OpenClaim := { program := "ytpaggpcpflmpcaadoor", sum := "40a2d811d768ebb5c81aad887aff5784e6a05e3a8d96f73d4511e48ee306e66a", func := "truffle/trufflelaw05.RecordTells", spec := "recordTells", unfollowed := true, recurses := true, named := ["truffle/tag.wires"], apart := false, laid := [("truffle/tag.wires", laid_truffle_tag_wires)], narrowed := true }
def RecordTellsUptoSaid : Prop := recordTellsUptoRow.holds Tryd.pinned (OpenSpec.upto recordTellsSpec)

/-- 'trufflelaw05.RecordBack', WHERE WHAT IT READS IS OF BULK AT MOST 1048576: true; the input reads as it did. -/
def recordBackUptoRow : OpenClaim := { program := "ytpaggpcpflmpcaadoor", sum := "40a2d811d768ebb5c81aad887aff5784e6a05e3a8d96f73d4511e48ee306e66a", func := "truffle/trufflelaw05.RecordBack", spec := "recordBack", named := ["truffle/tag.wires"], apart := false, laid := [("truffle/tag.wires", laid_truffle_tag_wires)], narrowed := true }
def RecordBackUptoSaid : Prop := recordBackUptoRow.holds Tryd.pinned (OpenSpec.upto recordBackSpec)

/-- 'trufflelaw05.RecordParts', WHERE WHAT IT READS IS OF BULK AT MOST 1048576: true; the input reads as it did. -/
def recordPartsUptoRow : OpenClaim := { program := "ytpaggpcpflmpcaadoor", sum := "40a2d811d768ebb5c81aad887aff5784e6a05e3a8d96f73d4511e48ee306e66a", func := "truffle/trufflelaw05.RecordParts", spec := "recordParts", unfollowed := true, recurses := true, named := ["truffle/tag.wires"], apart := false, laid := [("truffle/tag.wires", laid_truffle_tag_wires)], narrowed := true }
def RecordPartsUptoSaid : Prop := recordPartsUptoRow.holds Tryd.pinned (OpenSpec.upto recordPartsSpec)

/-- 'trufflelaw05.RecordCut', WHERE WHAT IT READS IS OF BULK AT MOST 1048576: true; the input reads as it did. -/
def recordCutUptoRow : OpenClaim := { program := "ytpaggpcpflmpcaadoor", sum := "40a2d811d768ebb5c81aad887aff5784e6a05e3a8d96f73d4511e48ee306e66a", func := "truffle/trufflelaw05.RecordCut", spec := "recordCut", named := ["truffle/tag.wires"], apart := false, laid := [("truffle/tag.wires", laid_truffle_tag_wires)], narrowed := true }
def RecordCutUptoSaid : Prop := recordCutUptoRow.holds Tryd.pinned (OpenSpec.upto recordCutSpec)

/-- 'trufflelaw05.RecordMany', WHERE WHAT IT READS IS OF BULK AT MOST 1048576: true; the input reads as it did. -/
def recordManyUptoRow : OpenClaim := { program := "ytpaggpcpflmpcaadoor", sum := "40a2d811d768ebb5c81aad887aff5784e6a05e3a8d96f73d4511e48ee306e66a", func := "truffle/trufflelaw05.RecordMany", spec := "recordMany", unfollowed := true, recurses := true, named := ["truffle/tag.wires"], apart := false, laid := [("truffle/tag.wires", laid_truffle_tag_wires)], narrowed := true }
def RecordManyUptoSaid : Prop := recordManyUptoRow.holds Tryd.pinned (OpenSpec.upto recordManySpec)

/-- 'trufflelaw05.RecordOne', WHERE WHAT IT READS IS OF BULK AT MOST 1048576: true; the input reads as it did. -/
def recordOneUptoRow : OpenClaim := { program := "ytpaggpcpflmpcaadoor", sum := "40a2d811d768ebb5c81aad887aff5784e6a05e3a8d96f73d4511e48ee306e66a", func := "truffle/trufflelaw05.RecordOne", spec := "recordOne", named := ["truffle/tag.wires"], apart := false, laid := [("truffle/tag.wires", laid_truffle_tag_wires)], narrowed := true }
def RecordOneUptoSaid : Prop := recordOneUptoRow.holds Tryd.pinned (OpenSpec.upto recordOneSpec)

end Rows
end Go.Proofs.YtpaggpcpflmpcaaDoor
