/-
  NARROWER THAN 'FOR EVERY INPUT', by the rows' own cells (each row's printed sentence says how): DecodeNumbers: laid · EncodeSame: loops, laid · EncodeParts: loops, laid · EncodeValue: loops, laid.
  DERIVED. THE GIVEN ROWS OF THIS SEAT. 4 by the template 'for every input the law returns true; each argument reads behind the call as it read before'; 0 by the template 'total and deterministic' (their statements: YtipaangiehdgkaaGreatDoorTotals.lean).
  GIVEN WITH THE SEED: the statements are not yours to turn. If you find one false, say at which input.
  Laid BY PROGRAM, IN A SANDBOX (cutbox-rows.mjs): the forced cells as the released guide's own fill.sh prints them over the translation e8cd6c51e7c85062… (all of the seat's roots in one cut). By AI agents, Wed Nov 11 2026. No macro, syntax, notation, axiom, sorry.
-/
import Derived.Test.YtipaangiehdgkaaGreatDoorChecked
import GoSem.Claim
import GoSem.ClaimJoined
import GoSem.ClaimMapViews
import Derived.JoinedTies
import Derived.KernelRfl
namespace Go.Proofs.YtipaangiehdgkaaGreatDoor
/- THE CELL 'sum', in the pinned program and in every row, IS THE sha256 OF THE DUMP (.gsa) THAT YtipaangiehdgkaaGreatDoorProg.lean LOADS. Nothing in Lean hashes anything: it is a label: what it is worth is what the hold of that sum in a sandbox is worth. -/
noncomputable def Tryz.pinned : Pinned := { name := "ytipaangiehdgkaagreatdoor", sum := "e8cd6c51e7c85062cc8ad8b0c0c168230cd326a184fdd54a7ca8012765329b28", checked := Tryz.checked }
namespace Rows
def none {H : Type} : Left H := { results := [], args := [] }

/- WHAT THE LISTED PACKAGE-LEVEL VARIABLES READ AS WHEN THE CALL BEGINS. Each datum BY PROGRAM (the guide's laid-datum.mjs) off the statement by which the dump's own 'gosem.cut.vars' lays the variable. In a bare row this is a premise. The card (YtipaangiehdgkaaGreatDoorCards.lean) ties it to the program's text. -/
def laid_truffle_tag_wires {H : Type} : DataW H := .agg [.lit (.int .i64 0), .lit (.int .i64 1), .lit (.int .i64 2), .lit (.int .i64 5)]
def laid_truffle_table_plains {H : Type} : DataW H := .agg [.agg [.lit (.string [105, 110, 116, 54, 52]), .lit (.int .i64 0)], .agg [.lit (.string [115, 105, 110, 116, 54, 52]), .lit (.int .i64 1)], .agg [.lit (.string [117, 105, 110, 116, 51, 50]), .lit (.int .i64 2)], .agg [.lit (.string [98, 111, 111, 108]), .lit (.int .i64 3)], .agg [.lit (.string [102, 105, 120, 101, 100, 51, 50]), .lit (.int .i64 4)], .agg [.lit (.string [115, 102, 105, 120, 101, 100, 54, 52]), .lit (.int .i64 5)], .agg [.lit (.string [115, 116, 114, 105, 110, 103]), .lit (.int .i64 7)], .agg [.lit (.string [98, 121, 116, 101, 115]), .lit (.int .i64 8)]]
def laid_truffle_table_stances {H : Type} : DataW H := .agg [.agg [.lit (.bool false), .lit (.bool false), .lit (.bool false)], .agg [.lit (.bool true), .lit (.bool false), .lit (.bool false)], .agg [.lit (.bool false), .lit (.bool true), .lit (.bool false)], .agg [.lit (.bool false), .lit (.bool false), .lit (.bool true)]]

/-- 'trufflelaw11.DecodeNumbers': WHATEVER THE INPUT: true; the input reads as it did. -/
def decodeNumbersSpec : ChangeSpec := { name := "decodeNumbers", fn := fun _ => fun
  | [d1, d2, d3] => { results := [.lit (.bool true)], args := [d1, d2, d3] }
  | _ => none }
def decodeNumbersRow : OpenClaim := { program := "ytipaangiehdgkaagreatdoor", sum := "e8cd6c51e7c85062cc8ad8b0c0c168230cd326a184fdd54a7ca8012765329b28", func := "truffle/trufflelaw11.DecodeNumbers", spec := "decodeNumbers", unfollowed := true, recurses := true, named := ["truffle/table.plains", "truffle/table.stances", "truffle/tag.wires"], plainKeys := false, apart := false, laid := [("truffle/tag.wires", laid_truffle_tag_wires), ("truffle/table.plains", laid_truffle_table_plains), ("truffle/table.stances", laid_truffle_table_stances)] }
def DecodeNumbersSaid : Prop := decodeNumbersRow.holds Tryz.pinned (OpenSpec.ofChange decodeNumbersSpec)

/-- ITS FALSE NEIGHBOUR: 'it returns false'. Refute it at one input. -/
def decodeNumbersWrong : ChangeSpec := { name := "decodeNumbers", fn := fun _ => fun
  | [d1, d2, d3] => { results := [.lit (.bool false)], args := [d1, d2, d3] }
  | _ => none }
def DecodeNumbersWrongFalsely : Prop := decodeNumbersRow.holds Tryz.pinned (OpenSpec.ofChange decodeNumbersWrong)

/-- 'trufflelaw12.EncodeSame': WHATEVER THE INPUT: true; the input reads as it did. -/
def encodeSameSpec : ChangeSpec := { name := "encodeSame", fn := fun _ => fun
  | [d1, d2, d3, d4] => { results := [.lit (.bool true)], args := [d1, d2, d3, d4] }
  | _ => none }
def encodeSameRow : OpenClaim := { program := "ytipaangiehdgkaagreatdoor", sum := "e8cd6c51e7c85062cc8ad8b0c0c168230cd326a184fdd54a7ca8012765329b28", func := "truffle/trufflelaw12.EncodeSame", spec := "encodeSame", unfollowed := true, recurses := true, named := ["truffle/table.plains", "truffle/table.stances", "truffle/tag.wires"], loops := true, plainKeys := false, apart := false, laid := [("truffle/tag.wires", laid_truffle_tag_wires), ("truffle/table.plains", laid_truffle_table_plains), ("truffle/table.stances", laid_truffle_table_stances)] }
def EncodeSameSaid : Prop := encodeSameRow.holds Tryz.pinned (OpenSpec.ofChange encodeSameSpec)

/-- ITS FALSE NEIGHBOUR: 'it returns false'. Refute it at one input. -/
def encodeSameWrong : ChangeSpec := { name := "encodeSame", fn := fun _ => fun
  | [d1, d2, d3, d4] => { results := [.lit (.bool false)], args := [d1, d2, d3, d4] }
  | _ => none }
def EncodeSameWrongFalsely : Prop := encodeSameRow.holds Tryz.pinned (OpenSpec.ofChange encodeSameWrong)

/-- 'trufflelaw12.EncodeParts': WHATEVER THE INPUT: true; the input reads as it did. -/
def encodePartsSpec : ChangeSpec := { name := "encodeParts", fn := fun _ => fun
  | [d1, d2, d3] => { results := [.lit (.bool true)], args := [d1, d2, d3] }
  | _ => none }
def encodePartsRow : OpenClaim := { program := "ytipaangiehdgkaagreatdoor", sum := "e8cd6c51e7c85062cc8ad8b0c0c168230cd326a184fdd54a7ca8012765329b28", func := "truffle/trufflelaw12.EncodeParts", spec := "encodeParts", unfollowed := true, recurses := true, named := ["truffle/table.plains", "truffle/table.stances", "truffle/tag.wires"], loops := true, plainKeys := false, apart := false, laid := [("truffle/tag.wires", laid_truffle_tag_wires), ("truffle/table.plains", laid_truffle_table_plains), ("truffle/table.stances", laid_truffle_table_stances)] }
def EncodePartsSaid : Prop := encodePartsRow.holds Tryz.pinned (OpenSpec.ofChange encodePartsSpec)

/-- ITS FALSE NEIGHBOUR: 'it returns false'. Refute it at one input. -/
def encodePartsWrong : ChangeSpec := { name := "encodeParts", fn := fun _ => fun
  | [d1, d2, d3] => { results := [.lit (.bool false)], args := [d1, d2, d3] }
  | _ => none }
def EncodePartsWrongFalsely : Prop := encodePartsRow.holds Tryz.pinned (OpenSpec.ofChange encodePartsWrong)

/-- 'trufflelaw12.EncodeValue': WHATEVER THE INPUT: true; the input reads as it did. -/
def encodeValueSpec : ChangeSpec := { name := "encodeValue", fn := fun _ => fun
  | [d1, d2, d3, d4] => { results := [.lit (.bool true)], args := [d1, d2, d3, d4] }
  | _ => none }
def encodeValueRow : OpenClaim := { program := "ytipaangiehdgkaagreatdoor", sum := "e8cd6c51e7c85062cc8ad8b0c0c168230cd326a184fdd54a7ca8012765329b28", func := "truffle/trufflelaw12.EncodeValue", spec := "encodeValue", unfollowed := true, recurses := true, named := ["truffle/table.plains", "truffle/table.stances", "truffle/tag.wires"], loops := true, plainKeys := false, apart := false, laid := [("truffle/tag.wires", laid_truffle_tag_wires), ("truffle/table.plains", laid_truffle_table_plains), ("truffle/table.stances", laid_truffle_table_stances)] }
def EncodeValueSaid : Prop := encodeValueRow.holds Tryz.pinned (OpenSpec.ofChange encodeValueSpec)

/-- ITS FALSE NEIGHBOUR: 'it returns false'. Refute it at one input. -/
def encodeValueWrong : ChangeSpec := { name := "encodeValue", fn := fun _ => fun
  | [d1, d2, d3, d4] => { results := [.lit (.bool false)], args := [d1, d2, d3, d4] }
  | _ => none }
def EncodeValueWrongFalsely : Prop := encodeValueRow.holds Tryz.pinned (OpenSpec.ofChange encodeValueWrong)

/- THE SECOND FORM. 'bulk': how many values and letters a reading holds, each counted each time it is reached (what is shared counts as often as it is met; a slice's spare places count too). A statement '..UptoSaid' is the law's where the arguments, and the package variables that the reading takes, are together of bulk at most 1048576: NARROWER than '..Said'. Prove '..Said' where nothing that the law and all that it calls make is longer than what came in: it says more and counts as full. Else prove '..UptoSaid'. A law counts once. -/
mutual
def uptoBulk {H : Type} : DataW H → Nat
  | .lit (.string bytes) => bytes.length + 1
  | .lit _ => 1
  | .nil => 1
  | .ptr d => uptoBulk d + 1
  | .slice elems spare => uptoBulkAll elems + uptoBulkAll spare + 1
  | .agg parts => uptoBulkAll parts + 1
  | .iface _ d => uptoBulk d + 1
  | .map entries => uptoBulkEntries entries + 1
  | .held _ => 1
def uptoBulkAll {H : Type} : List (DataW H) → Nat
  | [] => 0
  | d :: r => uptoBulk d + uptoBulkAll r
def uptoBulkEntries {H : Type} : List (Lit × DataW H) → Nat
  | [] => 0
  | x :: r => uptoBulkEntry x + uptoBulkEntries r
def uptoBulkEntry {H : Type} : Lit × DataW H → Nat
  | (.string bytes, d) => bytes.length + uptoBulk d + 1
  | (_, d) => uptoBulk d + 1
 end
def uptoSmall : (H : Type) → List (DataW H) → Bool := fun _ ds => decide (uptoBulkAll ds ≤ 1048576)
def OpenSpec.upto (s : _root_.Go.ChangeSpec) : _root_.Go.OpenSpec := { _root_.Go.OpenSpec.ofChange s with cond := some uptoSmall }

/-- 'trufflelaw11.DecodeNumbers', WHERE WHAT IT READS IS OF BULK AT MOST 1048576: true; the input reads as it did. -/
def decodeNumbersUptoRow : OpenClaim := { program := "ytipaangiehdgkaagreatdoor", sum := "e8cd6c51e7c85062cc8ad8b0c0c168230cd326a184fdd54a7ca8012765329b28", func := "truffle/trufflelaw11.DecodeNumbers", spec := "decodeNumbers", unfollowed := true, recurses := true, named := ["truffle/table.plains", "truffle/table.stances", "truffle/tag.wires"], plainKeys := false, apart := false, laid := [("truffle/tag.wires", laid_truffle_tag_wires), ("truffle/table.plains", laid_truffle_table_plains), ("truffle/table.stances", laid_truffle_table_stances)], narrowed := true }
def DecodeNumbersUptoSaid : Prop := decodeNumbersUptoRow.holds Tryz.pinned (OpenSpec.upto decodeNumbersSpec)

/-- 'trufflelaw12.EncodeSame', WHERE WHAT IT READS IS OF BULK AT MOST 1048576: true; the input reads as it did. -/
def encodeSameUptoRow : OpenClaim := { program := "ytipaangiehdgkaagreatdoor", sum := "e8cd6c51e7c85062cc8ad8b0c0c168230cd326a184fdd54a7ca8012765329b28", func := "truffle/trufflelaw12.EncodeSame", spec := "encodeSame", unfollowed := true, recurses := true, named := ["truffle/table.plains", "truffle/table.stances", "truffle/tag.wires"], loops := true, plainKeys := false, apart := false, laid := [("truffle/tag.wires", laid_truffle_tag_wires), ("truffle/table.plains", laid_truffle_table_plains), ("truffle/table.stances", laid_truffle_table_stances)], narrowed := true }
def EncodeSameUptoSaid : Prop := encodeSameUptoRow.holds Tryz.pinned (OpenSpec.upto encodeSameSpec)

/-- 'trufflelaw12.EncodeParts', WHERE WHAT IT READS IS OF BULK AT MOST 1048576: true; the input reads as it did. -/
def encodePartsUptoRow : OpenClaim := { program := "ytipaangiehdgkaagreatdoor", sum := "e8cd6c51e7c85062cc8ad8b0c0c168230cd326a184fdd54a7ca8012765329b28", func := "truffle/trufflelaw12.EncodeParts", spec := "encodeParts", unfollowed := true, recurses := true, named := ["truffle/table.plains", "truffle/table.stances", "truffle/tag.wires"], loops := true, plainKeys := false, apart := false, laid := [("truffle/tag.wires", laid_truffle_tag_wires), ("truffle/table.plains", laid_truffle_table_plains), ("truffle/table.stances", laid_truffle_table_stances)], narrowed := true }
def EncodePartsUptoSaid : Prop := encodePartsUptoRow.holds Tryz.pinned (OpenSpec.upto encodePartsSpec)

/-- 'trufflelaw12.EncodeValue', WHERE WHAT IT READS IS OF BULK AT MOST 1048576: true; the input reads as it did. -/
def encodeValueUptoRow : OpenClaim := { program := "ytipaangiehdgkaagreatdoor", sum := "e8cd6c51e7c85062cc8ad8b0c0c168230cd326a184fdd54a7ca8012765329b28", func := "truffle/trufflelaw12.EncodeValue", spec := "encodeValue", unfollowed := true, recurses := true, named := ["truffle/table.plains", "truffle/table.stances", "truffle/tag.wires"], loops := true, plainKeys := false, apart := false, laid := [("truffle/tag.wires", laid_truffle_tag_wires), ("truffle/table.plains", laid_truffle_table_plains), ("truffle/table.stances", laid_truffle_table_stances)], narrowed := true }
def EncodeValueUptoSaid : Prop := encodeValueUptoRow.holds Tryz.pinned (OpenSpec.upto encodeValueSpec)

end Rows
end Go.Proofs.YtipaangiehdgkaaGreatDoor
