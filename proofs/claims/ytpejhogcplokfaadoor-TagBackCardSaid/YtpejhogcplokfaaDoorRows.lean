/-
  NARROWER THAN 'FOR EVERY INPUT', by the rows' own cells (each row's printed sentence says how): TagTells: laid · TagBack: laid · TagWrong: laid · TagOne: laid · TagCut: laid.
  DERIVED. THE GIVEN ROWS OF THIS SEAT. 5 by the template 'for every input the law returns true; each argument reads behind the call as it read before'; 0 by the template 'total and deterministic' (their statements: YtpejhogcplokfaaDoorTotals.lean).
  GIVEN WITH THE SEED: the statements are not yours to turn. If you find one false, say at which input.
  Laid BY PROGRAM, IN A SANDBOX (cutbox-rows.mjs): the forced cells as the released guide's own fill.sh prints them over the translation 164f47103a6cb48a… (all of the seat's roots in one cut). By AI agents, Wed Nov 11 2026. No macro, syntax, notation, axiom, sorry.
-/
import Derived.Test.YtpejhogcplokfaaDoorChecked
import GoSem.Claim
import GoSem.ClaimJoined
import GoSem.ClaimMapViews
import Derived.JoinedTies
import Derived.KernelRfl
namespace Go.Proofs.YtpejhogcplokfaaDoor
/- THE CELL 'sum', in the pinned program and in every row, IS THE sha256 OF THE DUMP (.gsa) THAT YtpejhogcplokfaaDoorProg.lean LOADS. Nothing in Lean hashes anything: it is a label: what it is worth is what the hold of that sum in a sandbox is worth. -/
noncomputable def Tryd.pinned : Pinned := { name := "ytpejhogcplokfaadoor", sum := "164f47103a6cb48a96d32e22430cf6e2041adc9bcce883959fd74dea8fc7b6a3", checked := Tryd.checked }
namespace Rows
def none {H : Type} : Left H := { results := [], args := [] }

/- WHAT THE LISTED PACKAGE-LEVEL VARIABLES READ AS WHEN THE CALL BEGINS. Each datum BY PROGRAM (the guide's laid-datum.mjs) off the statement by which the dump's own 'gosem.cut.vars' lays the variable. In a bare row this is a premise. The card (YtpejhogcplokfaaDoorCards.lean) ties it to the program's text. -/
def laid_truffle_tag_wires {H : Type} : DataW H := .agg [.lit (.int .i64 0), .lit (.int .i64 1), .lit (.int .i64 2), .lit (.int .i64 5)]

/-- 'trufflelaw03.TagTells': WHATEVER THE INPUT: true; the input reads as it did. -/
def tagTellsSpec : ChangeSpec := { name := "tagTells", fn := fun _ => fun
  | [d1, d2, d3, d4, d5] => { results := [.lit (.bool true)], args := [d1, d2, d3, d4, d5] }
  | _ => none }
def tagTellsRow : OpenClaim := { program := "ytpejhogcplokfaadoor", sum := "164f47103a6cb48a96d32e22430cf6e2041adc9bcce883959fd74dea8fc7b6a3", func := "truffle/trufflelaw03.TagTells", spec := "tagTells", named := ["truffle/tag.wires"], apart := false, laid := [("truffle/tag.wires", laid_truffle_tag_wires)] }
def TagTellsSaid : Prop := tagTellsRow.holds Tryd.pinned (OpenSpec.ofChange tagTellsSpec)

/-- ITS FALSE NEIGHBOUR: 'it returns false'. Refute it at one input. -/
def tagTellsWrong : ChangeSpec := { name := "tagTells", fn := fun _ => fun
  | [d1, d2, d3, d4, d5] => { results := [.lit (.bool false)], args := [d1, d2, d3, d4, d5] }
  | _ => none }
def TagTellsWrongFalsely : Prop := tagTellsRow.holds Tryd.pinned (OpenSpec.ofChange tagTellsWrong)

/-- 'trufflelaw03.TagBack': WHATEVER THE INPUT: true; the input reads as it did. -/
def tagBackSpec : ChangeSpec := { name := "tagBack", fn := fun _ => fun
  | [d1, d2, d3, d4] => { results := [.lit (.bool true)], args := [d1, d2, d3, d4] }
  | _ => none }
def tagBackRow : OpenClaim := { program := "ytpejhogcplokfaadoor", sum := "164f47103a6cb48a96d32e22430cf6e2041adc9bcce883959fd74dea8fc7b6a3", func := "truffle/trufflelaw03.TagBack", spec := "tagBack", named := ["truffle/tag.wires"], apart := false, laid := [("truffle/tag.wires", laid_truffle_tag_wires)] }
def TagBackSaid : Prop := tagBackRow.holds Tryd.pinned (OpenSpec.ofChange tagBackSpec)

/-- ITS FALSE NEIGHBOUR: 'it returns false'. Refute it at one input. -/
def tagBackWrong : ChangeSpec := { name := "tagBack", fn := fun _ => fun
  | [d1, d2, d3, d4] => { results := [.lit (.bool false)], args := [d1, d2, d3, d4] }
  | _ => none }
def TagBackWrongFalsely : Prop := tagBackRow.holds Tryd.pinned (OpenSpec.ofChange tagBackWrong)

/-- 'trufflelaw03.TagWrong': WHATEVER THE INPUT: true; the input reads as it did. -/
def tagWrongSpec : ChangeSpec := { name := "tagWrong", fn := fun _ => fun
  | [d] => { results := [.lit (.bool true)], args := [d] }
  | _ => none }
def tagWrongRow : OpenClaim := { program := "ytpejhogcplokfaadoor", sum := "164f47103a6cb48a96d32e22430cf6e2041adc9bcce883959fd74dea8fc7b6a3", func := "truffle/trufflelaw03.TagWrong", spec := "tagWrong", named := ["truffle/tag.wires"], apart := false, laid := [("truffle/tag.wires", laid_truffle_tag_wires)] }
def TagWrongSaid : Prop := tagWrongRow.holds Tryd.pinned (OpenSpec.ofChange tagWrongSpec)

/-- ITS FALSE NEIGHBOUR: 'it returns false'. Refute it at one input. -/
def tagWrongWrong : ChangeSpec := { name := "tagWrong", fn := fun _ => fun
  | [d] => { results := [.lit (.bool false)], args := [d] }
  | _ => none }
def TagWrongWrongFalsely : Prop := tagWrongRow.holds Tryd.pinned (OpenSpec.ofChange tagWrongWrong)

/-- 'trufflelaw03.TagOne': WHATEVER THE INPUT: true; the input reads as it did. -/
def tagOneSpec : ChangeSpec := { name := "tagOne", fn := fun _ => fun
  | [d1, d2, d3, d4] => { results := [.lit (.bool true)], args := [d1, d2, d3, d4] }
  | _ => none }
def tagOneRow : OpenClaim := { program := "ytpejhogcplokfaadoor", sum := "164f47103a6cb48a96d32e22430cf6e2041adc9bcce883959fd74dea8fc7b6a3", func := "truffle/trufflelaw03.TagOne", spec := "tagOne", named := ["truffle/tag.wires"], apart := false, laid := [("truffle/tag.wires", laid_truffle_tag_wires)] }
def TagOneSaid : Prop := tagOneRow.holds Tryd.pinned (OpenSpec.ofChange tagOneSpec)

/-- ITS FALSE NEIGHBOUR: 'it returns false'. Refute it at one input. -/
def tagOneWrong : ChangeSpec := { name := "tagOne", fn := fun _ => fun
  | [d1, d2, d3, d4] => { results := [.lit (.bool false)], args := [d1, d2, d3, d4] }
  | _ => none }
def TagOneWrongFalsely : Prop := tagOneRow.holds Tryd.pinned (OpenSpec.ofChange tagOneWrong)

/-- 'trufflelaw03.TagCut': WHATEVER THE INPUT: true; the input reads as it did. -/
def tagCutSpec : ChangeSpec := { name := "tagCut", fn := fun _ => fun
  | [d1, d2, d3] => { results := [.lit (.bool true)], args := [d1, d2, d3] }
  | _ => none }
def tagCutRow : OpenClaim := { program := "ytpejhogcplokfaadoor", sum := "164f47103a6cb48a96d32e22430cf6e2041adc9bcce883959fd74dea8fc7b6a3", func := "truffle/trufflelaw03.TagCut", spec := "tagCut", named := ["truffle/tag.wires"], apart := false, laid := [("truffle/tag.wires", laid_truffle_tag_wires)] }
def TagCutSaid : Prop := tagCutRow.holds Tryd.pinned (OpenSpec.ofChange tagCutSpec)

/-- ITS FALSE NEIGHBOUR: 'it returns false'. Refute it at one input. -/
def tagCutWrong : ChangeSpec := { name := "tagCut", fn := fun _ => fun
  | [d1, d2, d3] => { results := [.lit (.bool false)], args := [d1, d2, d3] }
  | _ => none }
def TagCutWrongFalsely : Prop := tagCutRow.holds Tryd.pinned (OpenSpec.ofChange tagCutWrong)

/- THE SECOND FORM. 'bulk': how many values and letters a reading holds, each counted each time it is reached (what is shared counts as often as it is met; a slice's spare places count too). A statement '..UptoSaid' is the law's where the arguments, and the package variables that the reading takes, are together of bulk at most 1048576: NARROWER than '..Said'. Prove '..Said' where nothing that the law and all that it calls make is longer than what came in: it says more and counts as full. Else prove '..UptoSaid'. A law counts once. -/
mutual
def uptoBulk {H : Type} : DataW H → Nat
  | .lit (.string bytes) => bytes.length + 1
  | .lit _ => 1
  | .nil => 1
  | .ptr d => uptoBulk d + 1
  | .slice elems spare => uptoBulkAll elems + uptoBulkAll spare + 1
  | .agg parts => uptoBulkAll parts + 1
  | .iface _ d => uptoBulk d + 1
  | .map entries => uptoBulkEntries entries + 1
  | .held _ => 1
def uptoBulkAll {H : Type} : List (DataW H) → Nat
  | [] => 0
  | d :: r => uptoBulk d + uptoBulkAll r
def uptoBulkEntries {H : Type} : List (Lit × DataW H) → Nat
  | [] => 0
  | x :: r => uptoBulkEntry x + uptoBulkEntries r
def uptoBulkEntry {H : Type} : Lit × DataW H → Nat
  | (.string bytes, d) => bytes.length + uptoBulk d + 1
  | (_, d) => uptoBulk d + 1
 end
def uptoSmall : (H : Type) → List (DataW H) → Bool := fun _ ds => decide (uptoBulkAll ds ≤ 1048576)
def OpenSpec.upto (s : _root_.Go.ChangeSpec) : _root_.Go.OpenSpec := { _root_.Go.OpenSpec.ofChange s with cond := some uptoSmall }

/-- 'trufflelaw03.TagTells', WHERE WHAT IT READS IS OF BULK AT MOST 1048576: true; the input reads as it did. -/
def tagTellsUptoRow : OpenClaim := { program := "ytpejhogcplokfaadoor", sum := "164f47103a6cb48a96d32e22430cf6e2041adc9bcce883959fd74dea8fc7b6a3", func := "truffle/trufflelaw03.TagTells", spec := "tagTells", named := ["truffle/tag.wires"], apart := false, laid := [("truffle/tag.wires", laid_truffle_tag_wires)], narrowed := true }
def TagTellsUptoSaid : Prop := tagTellsUptoRow.holds Tryd.pinned (OpenSpec.upto tagTellsSpec)

/-- 'trufflelaw03.TagBack', WHERE WHAT IT READS IS OF BULK AT MOST 1048576: true; the input reads as it did. -/
def tagBackUptoRow : OpenClaim := { program := "ytpejhogcplokfaadoor", sum := "164f47103a6cb48a96d32e22430cf6e2041adc9bcce883959fd74dea8fc7b6a3", func := "truffle/trufflelaw03.TagBack", spec := "tagBack", named := ["truffle/tag.wires"], apart := false, laid := [("truffle/tag.wires", laid_truffle_tag_wires)], narrowed := true }
def TagBackUptoSaid : Prop := tagBackUptoRow.holds Tryd.pinned (OpenSpec.upto tagBackSpec)

/-- 'trufflelaw03.TagWrong', WHERE WHAT IT READS IS OF BULK AT MOST 1048576: true; the input reads as it did. -/
def tagWrongUptoRow : OpenClaim := { program := "ytpejhogcplokfaadoor", sum := "164f47103a6cb48a96d32e22430cf6e2041adc9bcce883959fd74dea8fc7b6a3", func := "truffle/trufflelaw03.TagWrong", spec := "tagWrong", named := ["truffle/tag.wires"], apart := false, laid := [("truffle/tag.wires", laid_truffle_tag_wires)], narrowed := true }
def TagWrongUptoSaid : Prop := tagWrongUptoRow.holds Tryd.pinned (OpenSpec.upto tagWrongSpec)

/-- 'trufflelaw03.TagOne', WHERE WHAT IT READS IS OF BULK AT MOST 1048576: true; the input reads as it did. -/
def tagOneUptoRow : OpenClaim := { program := "ytpejhogcplokfaadoor", sum := "164f47103a6cb48a96d32e22430cf6e2041adc9bcce883959fd74dea8fc7b6a3", func := "truffle/trufflelaw03.TagOne", spec := "tagOne", named := ["truffle/tag.wires"], apart := false, laid := [("truffle/tag.wires", laid_truffle_tag_wires)], narrowed := true }
def TagOneUptoSaid : Prop := tagOneUptoRow.holds Tryd.pinned (OpenSpec.upto tagOneSpec)

/-- 'trufflelaw03.TagCut', WHERE WHAT IT READS IS OF BULK AT MOST 1048576: true; the input reads as it did. -/
def tagCutUptoRow : OpenClaim := { program := "ytpejhogcplokfaadoor", sum := "164f47103a6cb48a96d32e22430cf6e2041adc9bcce883959fd74dea8fc7b6a3", func := "truffle/trufflelaw03.TagCut", spec := "tagCut", named := ["truffle/tag.wires"], apart := false, laid := [("truffle/tag.wires", laid_truffle_tag_wires)], narrowed := true }
def TagCutUptoSaid : Prop := tagCutUptoRow.holds Tryd.pinned (OpenSpec.upto tagCutSpec)

end Rows
end Go.Proofs.YtpejhogcplokfaaDoor
