/-
  No cell of these rows narrows 'for every input' (looked for: loops, veiled, ifaces, maps, wideKeys, modest, calm, conditions, laid).
  DERIVED. THE GIVEN ROWS OF THIS SEAT. 7 by the template 'for every input the law returns true; each argument reads behind the call as it read before'; 0 by the template 'total and deterministic' (their statements: YthmnngojfllahaaTotals.lean).
  GIVEN WITH THE SEED: the statements are not yours to turn. If you find one false, say at which input.
  Laid BY PROGRAM, IN A SANDBOX (cutbox-rows.mjs): the forced cells as the released guide's own fill.sh prints them over the translation ca17608b87780aa2… (all of the seat's roots in one cut). By AI agents, Wed Nov 11 2026. No macro, syntax, notation, axiom, sorry.
-/
import Derived.Test.YthmnngojfllahaaChecked
import GoSem.Claim
import GoSem.ClaimJoined
import GoSem.ClaimMapViews
import Derived.JoinedTies
import Derived.KernelRfl
namespace Go.Proofs.Ythmnngojfllahaa
/- THE CELL 'sum', in the pinned program and in every row, IS THE sha256 OF THE DUMP (.gsa) THAT YthmnngojfllahaaProg.lean LOADS. Nothing in Lean hashes anything: it is a label: what it is worth is what the hold of that sum in a sandbox is worth. -/
noncomputable def Try.pinned : Pinned := { name := "ythmnngojfllahaa", sum := "ca17608b87780aa2da7ac906c2ff58042c1927bcc041f816bb103285312127ab", checked := Try.checked }
namespace Rows
def none {H : Type} : Left H := { results := [], args := [] }

/-- 'trufflelaw01.VarintTells': WHATEVER THE INPUT: true; the input reads as it did. -/
def varintTellsSpec : ChangeSpec := { name := "varintTells", fn := fun _ => fun
  | [d1, d2, d3, d4, d5] => { results := [.lit (.bool true)], args := [d1, d2, d3, d4, d5] }
  | _ => none }
def varintTellsRow : OpenClaim := { program := "ythmnngojfllahaa", sum := "ca17608b87780aa2da7ac906c2ff58042c1927bcc041f816bb103285312127ab", func := "truffle/trufflelaw01.VarintTells", spec := "varintTells", apart := false }
def VarintTellsSaid : Prop := varintTellsRow.holds Try.pinned (OpenSpec.ofChange varintTellsSpec)

/-- ITS FALSE NEIGHBOUR: 'it returns false'. Refute it at one input. -/
def varintTellsWrong : ChangeSpec := { name := "varintTells", fn := fun _ => fun
  | [d1, d2, d3, d4, d5] => { results := [.lit (.bool false)], args := [d1, d2, d3, d4, d5] }
  | _ => none }
def VarintTellsWrongFalsely : Prop := varintTellsRow.holds Try.pinned (OpenSpec.ofChange varintTellsWrong)

/-- 'trufflelaw01.VarintBack': WHATEVER THE INPUT: true; the input reads as it did. -/
def varintBackSpec : ChangeSpec := { name := "varintBack", fn := fun _ => fun
  | [d1, d2, d3] => { results := [.lit (.bool true)], args := [d1, d2, d3] }
  | _ => none }
def varintBackRow : OpenClaim := { program := "ythmnngojfllahaa", sum := "ca17608b87780aa2da7ac906c2ff58042c1927bcc041f816bb103285312127ab", func := "truffle/trufflelaw01.VarintBack", spec := "varintBack", apart := false }
def VarintBackSaid : Prop := varintBackRow.holds Try.pinned (OpenSpec.ofChange varintBackSpec)

/-- ITS FALSE NEIGHBOUR: 'it returns false'. Refute it at one input. -/
def varintBackWrong : ChangeSpec := { name := "varintBack", fn := fun _ => fun
  | [d1, d2, d3] => { results := [.lit (.bool false)], args := [d1, d2, d3] }
  | _ => none }
def VarintBackWrongFalsely : Prop := varintBackRow.holds Try.pinned (OpenSpec.ofChange varintBackWrong)

/-- 'trufflelaw01.VarintLong': WHATEVER THE INPUT: true; the input reads as it did. -/
def varintLongSpec : ChangeSpec := { name := "varintLong", fn := fun _ => fun
  | [d1, d2] => { results := [.lit (.bool true)], args := [d1, d2] }
  | _ => none }
def varintLongRow : OpenClaim := { program := "ythmnngojfllahaa", sum := "ca17608b87780aa2da7ac906c2ff58042c1927bcc041f816bb103285312127ab", func := "truffle/trufflelaw01.VarintLong", spec := "varintLong", apart := false }
def VarintLongSaid : Prop := varintLongRow.holds Try.pinned (OpenSpec.ofChange varintLongSpec)

/-- ITS FALSE NEIGHBOUR: 'it returns false'. Refute it at one input. -/
def varintLongWrong : ChangeSpec := { name := "varintLong", fn := fun _ => fun
  | [d1, d2] => { results := [.lit (.bool false)], args := [d1, d2] }
  | _ => none }
def VarintLongWrongFalsely : Prop := varintLongRow.holds Try.pinned (OpenSpec.ofChange varintLongWrong)

/-- 'trufflelaw01.VarintFix': WHATEVER THE INPUT: true; the input reads as it did. -/
def varintFixSpec : ChangeSpec := { name := "varintFix", fn := fun _ => fun
  | [d1, d2] => { results := [.lit (.bool true)], args := [d1, d2] }
  | _ => none }
def varintFixRow : OpenClaim := { program := "ythmnngojfllahaa", sum := "ca17608b87780aa2da7ac906c2ff58042c1927bcc041f816bb103285312127ab", func := "truffle/trufflelaw01.VarintFix", spec := "varintFix", apart := false }
def VarintFixSaid : Prop := varintFixRow.holds Try.pinned (OpenSpec.ofChange varintFixSpec)

/-- ITS FALSE NEIGHBOUR: 'it returns false'. Refute it at one input. -/
def varintFixWrong : ChangeSpec := { name := "varintFix", fn := fun _ => fun
  | [d1, d2] => { results := [.lit (.bool false)], args := [d1, d2] }
  | _ => none }
def VarintFixWrongFalsely : Prop := varintFixRow.holds Try.pinned (OpenSpec.ofChange varintFixWrong)

/-- 'trufflelaw01.VarintEnds': WHATEVER THE INPUT: true; the input reads as it did. -/
def varintEndsSpec : ChangeSpec := { name := "varintEnds", fn := fun _ => fun
  | [d] => { results := [.lit (.bool true)], args := [d] }
  | _ => none }
def varintEndsRow : OpenClaim := { program := "ythmnngojfllahaa", sum := "ca17608b87780aa2da7ac906c2ff58042c1927bcc041f816bb103285312127ab", func := "truffle/trufflelaw01.VarintEnds", spec := "varintEnds", apart := false }
def VarintEndsSaid : Prop := varintEndsRow.holds Try.pinned (OpenSpec.ofChange varintEndsSpec)

/-- ITS FALSE NEIGHBOUR: 'it returns false'. Refute it at one input. -/
def varintEndsWrong : ChangeSpec := { name := "varintEnds", fn := fun _ => fun
  | [d] => { results := [.lit (.bool false)], args := [d] }
  | _ => none }
def VarintEndsWrongFalsely : Prop := varintEndsRow.holds Try.pinned (OpenSpec.ofChange varintEndsWrong)

/-- 'trufflelaw01.VarintStep': WHATEVER THE INPUT: true; the input reads as it did. -/
def varintStepSpec : ChangeSpec := { name := "varintStep", fn := fun _ => fun
  | [d] => { results := [.lit (.bool true)], args := [d] }
  | _ => none }
def varintStepRow : OpenClaim := { program := "ythmnngojfllahaa", sum := "ca17608b87780aa2da7ac906c2ff58042c1927bcc041f816bb103285312127ab", func := "truffle/trufflelaw01.VarintStep", spec := "varintStep", apart := false }
def VarintStepSaid : Prop := varintStepRow.holds Try.pinned (OpenSpec.ofChange varintStepSpec)

/-- ITS FALSE NEIGHBOUR: 'it returns false'. Refute it at one input. -/
def varintStepWrong : ChangeSpec := { name := "varintStep", fn := fun _ => fun
  | [d] => { results := [.lit (.bool false)], args := [d] }
  | _ => none }
def VarintStepWrongFalsely : Prop := varintStepRow.holds Try.pinned (OpenSpec.ofChange varintStepWrong)

/-- 'trufflelaw01.VarintWhere': WHATEVER THE INPUT: true; the input reads as it did. -/
def varintWhereSpec : ChangeSpec := { name := "varintWhere", fn := fun _ => fun
  | [d1, d2, d3] => { results := [.lit (.bool true)], args := [d1, d2, d3] }
  | _ => none }
def varintWhereRow : OpenClaim := { program := "ythmnngojfllahaa", sum := "ca17608b87780aa2da7ac906c2ff58042c1927bcc041f816bb103285312127ab", func := "truffle/trufflelaw01.VarintWhere", spec := "varintWhere", apart := false }
def VarintWhereSaid : Prop := varintWhereRow.holds Try.pinned (OpenSpec.ofChange varintWhereSpec)

/-- ITS FALSE NEIGHBOUR: 'it returns false'. Refute it at one input. -/
def varintWhereWrong : ChangeSpec := { name := "varintWhere", fn := fun _ => fun
  | [d1, d2, d3] => { results := [.lit (.bool false)], args := [d1, d2, d3] }
  | _ => none }
def VarintWhereWrongFalsely : Prop := varintWhereRow.holds Try.pinned (OpenSpec.ofChange varintWhereWrong)

/- THE SECOND FORM. 'bulk': how many values and letters a reading holds, each counted each time it is reached (what is shared counts as often as it is met; a slice's spare places count too). A statement '..UptoSaid' is the law's where the arguments, and the package variables that the reading takes, are together of bulk at most 1048576: NARROWER than '..Said'. Prove '..Said' where nothing that the law and all that it calls make is longer than what came in: it says more and counts as full. Else prove '..UptoSaid'. A law counts once. -/
mutual
def uptoBulk {H : Type} : DataW H → Nat
  | .lit (.string bytes) => bytes.length + 1
  | .lit _ => 1
  | .nil => 1
  | .ptr d => uptoBulk d + 1
  | .slice elems spare => uptoBulkAll elems + uptoBulkAll spare + 1
  | .agg parts => uptoBulkAll parts + 1
  | .iface _ d => uptoBulk d + 1
  | .map entries => uptoBulkEntries entries + 1
  | .held _ => 1
def uptoBulkAll {H : Type} : List (DataW H) → Nat
  | [] => 0
  | d :: r => uptoBulk d + uptoBulkAll r
def uptoBulkEntries {H : Type} : List (Lit × DataW H) → Nat
  | [] => 0
  | x :: r => uptoBulkEntry x + uptoBulkEntries r
def uptoBulkEntry {H : Type} : Lit × DataW H → Nat
  | (.string bytes, d) => bytes.length + uptoBulk d + 1
  | (_, d) => uptoBulk d + 1
 end
def uptoSmall : (H : Type) → List (DataW H) → Bool := fun _ ds => decide (uptoBulkAll ds ≤ 1048576)
def OpenSpec.upto (s : _root_.Go.ChangeSpec) : _root_.Go.OpenSpec := { _root_.Go.OpenSpec.ofChange s with cond := some uptoSmall }

/-- 'trufflelaw01.VarintTells', WHERE WHAT IT READS IS OF BULK AT MOST 1048576: true; the input reads as it did. -/
def varintTellsUptoRow : OpenClaim := { program := "ythmnngojfllahaa", sum := "ca17608b87780aa2da7ac906c2ff58042c1927bcc041f816bb103285312127ab", func := "truffle/trufflelaw01.VarintTells", spec := "varintTells", apart := false, narrowed := true }
def VarintTellsUptoSaid : Prop := varintTellsUptoRow.holds Try.pinned (OpenSpec.upto varintTellsSpec)

/-- 'trufflelaw01.VarintBack', WHERE WHAT IT READS IS OF BULK AT MOST 1048576: true; the input reads as it did. -/
def varintBackUptoRow : OpenClaim := { program := "ythmnngojfllahaa", sum := "ca17608b87780aa2da7ac906c2ff58042c1927bcc041f816bb103285312127ab", func := "truffle/trufflelaw01.VarintBack", spec := "varintBack", apart := false, narrowed := true }
def VarintBackUptoSaid : Prop := varintBackUptoRow.holds Try.pinned (OpenSpec.upto varintBackSpec)

/-- 'trufflelaw01.VarintLong', WHERE WHAT IT READS IS OF BULK AT MOST 1048576: true; the input reads as it did. -/
def varintLongUptoRow : OpenClaim := { program := "ythmnngojfllahaa", sum := "ca17608b87780aa2da7ac906c2ff58042c1927bcc041f816bb103285312127ab", func := "truffle/trufflelaw01.VarintLong", spec := "varintLong", apart := false, narrowed := true }
def VarintLongUptoSaid : Prop := varintLongUptoRow.holds Try.pinned (OpenSpec.upto varintLongSpec)

/-- 'trufflelaw01.VarintFix', WHERE WHAT IT READS IS OF BULK AT MOST 1048576: true; the input reads as it did. -/
def varintFixUptoRow : OpenClaim := { program := "ythmnngojfllahaa", sum := "ca17608b87780aa2da7ac906c2ff58042c1927bcc041f816bb103285312127ab", func := "truffle/trufflelaw01.VarintFix", spec := "varintFix", apart := false, narrowed := true }
def VarintFixUptoSaid : Prop := varintFixUptoRow.holds Try.pinned (OpenSpec.upto varintFixSpec)

/-- 'trufflelaw01.VarintEnds', WHERE WHAT IT READS IS OF BULK AT MOST 1048576: true; the input reads as it did. -/
def varintEndsUptoRow : OpenClaim := { program := "ythmnngojfllahaa", sum := "ca17608b87780aa2da7ac906c2ff58042c1927bcc041f816bb103285312127ab", func := "truffle/trufflelaw01.VarintEnds", spec := "varintEnds", apart := false, narrowed := true }
def VarintEndsUptoSaid : Prop := varintEndsUptoRow.holds Try.pinned (OpenSpec.upto varintEndsSpec)

/-- 'trufflelaw01.VarintStep', WHERE WHAT IT READS IS OF BULK AT MOST 1048576: true; the input reads as it did. -/
def varintStepUptoRow : OpenClaim := { program := "ythmnngojfllahaa", sum := "ca17608b87780aa2da7ac906c2ff58042c1927bcc041f816bb103285312127ab", func := "truffle/trufflelaw01.VarintStep", spec := "varintStep", apart := false, narrowed := true }
def VarintStepUptoSaid : Prop := varintStepUptoRow.holds Try.pinned (OpenSpec.upto varintStepSpec)

/-- 'trufflelaw01.VarintWhere', WHERE WHAT IT READS IS OF BULK AT MOST 1048576: true; the input reads as it did. -/
def varintWhereUptoRow : OpenClaim := { program := "ythmnngojfllahaa", sum := "ca17608b87780aa2da7ac906c2ff58042c1927bcc041f816bb103285312127ab", func := "truffle/trufflelaw01.VarintWhere", spec := "varintWhere", apart := false, narrowed := true }
def VarintWhereUptoSaid : Prop := varintWhereUptoRow.holds Try.pinned (OpenSpec.upto varintWhereSpec)

end Rows
end Go.Proofs.Ythmnngojfllahaa
