/-
  NARROWER THAN 'FOR EVERY INPUT', by the rows' own cells (each row's printed sentence says how): DecodeNormal: laid · DecodeFirst: laid · DecodeUnknown: laid · DecodePacked: laid · DecodeOwn: laid · DecodeTwice: laid · DecodeWire: laid · EncodeBack: loops, laid · EncodeAgain: laid.
  DERIVED. THE GIVEN ROWS OF THIS SEAT. 9 by the template 'for every input the law returns true; each argument reads behind the call as it read before'; 0 by the template 'total and deterministic' (their statements: YtckcojkpghiclaaGreatDoorTotals.lean).
  GIVEN WITH THE SEED: the statements are not yours to turn. If you find one false, say at which input.
  Laid BY PROGRAM, IN A SANDBOX (cutbox-rows.mjs): the forced cells as the released guide's own fill.sh prints them over the translation 449eaf0410d4102c… (all of the seat's roots in one cut). By AI agents, Wed Nov 11 2026. No macro, syntax, notation, axiom, sorry.
-/
import Derived.Test.YtckcojkpghiclaaGreatDoorChecked
import GoSem.Claim
import GoSem.ClaimJoined
import GoSem.ClaimMapViews
import Derived.JoinedTies
import Derived.KernelRfl
namespace Go.Proofs.YtckcojkpghiclaaGreatDoor
/- THE CELL 'sum', in the pinned program and in every row, IS THE sha256 OF THE DUMP (.gsa) THAT YtckcojkpghiclaaGreatDoorProg.lean LOADS. Nothing in Lean hashes anything: it is a label: what it is worth is what the hold of that sum in a sandbox is worth. -/
noncomputable def Tryz.pinned : Pinned := { name := "ytckcojkpghiclaagreatdoor", sum := "449eaf0410d4102ca78aa08ce5905d1bdf4179c1102c0c4e0dc74cda7db84354", checked := Tryz.checked }
namespace Rows
def none {H : Type} : Left H := { results := [], args := [] }

/- WHAT THE LISTED PACKAGE-LEVEL VARIABLES READ AS WHEN THE CALL BEGINS. Each datum BY PROGRAM (the guide's laid-datum.mjs) off the statement by which the dump's own 'gosem.cut.vars' lays the variable. In a bare row this is a premise. The card (YtckcojkpghiclaaGreatDoorCards.lean) ties it to the program's text. -/
def laid_truffle_tag_wires {H : Type} : DataW H := .agg [.lit (.int .i64 0), .lit (.int .i64 1), .lit (.int .i64 2), .lit (.int .i64 5)]
def laid_truffle_table_plains {H : Type} : DataW H := .agg [.agg [.lit (.string [105, 110, 116, 54, 52]), .lit (.int .i64 0)], .agg [.lit (.string [115, 105, 110, 116, 54, 52]), .lit (.int .i64 1)], .agg [.lit (.string [117, 105, 110, 116, 51, 50]), .lit (.int .i64 2)], .agg [.lit (.string [98, 111, 111, 108]), .lit (.int .i64 3)], .agg [.lit (.string [102, 105, 120, 101, 100, 51, 50]), .lit (.int .i64 4)], .agg [.lit (.string [115, 102, 105, 120, 101, 100, 54, 52]), .lit (.int .i64 5)], .agg [.lit (.string [115, 116, 114, 105, 110, 103]), .lit (.int .i64 7)], .agg [.lit (.string [98, 121, 116, 101, 115]), .lit (.int .i64 8)]]
def laid_truffle_table_stances {H : Type} : DataW H := .agg [.agg [.lit (.bool false), .lit (.bool false), .lit (.bool false)], .agg [.lit (.bool true), .lit (.bool false), .lit (.bool false)], .agg [.lit (.bool false), .lit (.bool true), .lit (.bool false)], .agg [.lit (.bool false), .lit (.bool false), .lit (.bool true)]]

/-- 'trufflelaw11.DecodeNormal': WHATEVER THE INPUT: true; the input reads as it did. -/
def decodeNormalSpec : ChangeSpec := { name := "decodeNormal", fn := fun _ => fun
  | [d1, d2, d3] => { results := [.lit (.bool true)], args := [d1, d2, d3] }
  | _ => none }
def decodeNormalRow : OpenClaim := { program := "ytckcojkpghiclaagreatdoor", sum := "449eaf0410d4102ca78aa08ce5905d1bdf4179c1102c0c4e0dc74cda7db84354", func := "truffle/trufflelaw11.DecodeNormal", spec := "decodeNormal", unfollowed := true, recurses := true, named := ["truffle/table.plains", "truffle/table.stances", "truffle/tag.wires"], plainKeys := false, apart := false, laid := [("truffle/tag.wires", laid_truffle_tag_wires), ("truffle/table.plains", laid_truffle_table_plains), ("truffle/table.stances", laid_truffle_table_stances)] }
def DecodeNormalSaid : Prop := decodeNormalRow.holds Tryz.pinned (OpenSpec.ofChange decodeNormalSpec)

/-- ITS FALSE NEIGHBOUR: 'it returns false'. Refute it at one input. -/
def decodeNormalWrong : ChangeSpec := { name := "decodeNormal", fn := fun _ => fun
  | [d1, d2, d3] => { results := [.lit (.bool false)], args := [d1, d2, d3] }
  | _ => none }
def DecodeNormalWrongFalsely : Prop := decodeNormalRow.holds Tryz.pinned (OpenSpec.ofChange decodeNormalWrong)

/-- 'trufflelaw11.DecodeFirst': WHATEVER THE INPUT: true; the input reads as it did. -/
def decodeFirstSpec : ChangeSpec := { name := "decodeFirst", fn := fun _ => fun
  | [d1, d2, d3, d4] => { results := [.lit (.bool true)], args := [d1, d2, d3, d4] }
  | _ => none }
def decodeFirstRow : OpenClaim := { program := "ytckcojkpghiclaagreatdoor", sum := "449eaf0410d4102ca78aa08ce5905d1bdf4179c1102c0c4e0dc74cda7db84354", func := "truffle/trufflelaw11.DecodeFirst", spec := "decodeFirst", unfollowed := true, recurses := true, named := ["truffle/table.plains", "truffle/table.stances", "truffle/tag.wires"], plainKeys := false, apart := false, laid := [("truffle/tag.wires", laid_truffle_tag_wires), ("truffle/table.plains", laid_truffle_table_plains), ("truffle/table.stances", laid_truffle_table_stances)] }
def DecodeFirstSaid : Prop := decodeFirstRow.holds Tryz.pinned (OpenSpec.ofChange decodeFirstSpec)

/-- ITS FALSE NEIGHBOUR: 'it returns false'. Refute it at one input. -/
def decodeFirstWrong : ChangeSpec := { name := "decodeFirst", fn := fun _ => fun
  | [d1, d2, d3, d4] => { results := [.lit (.bool false)], args := [d1, d2, d3, d4] }
  | _ => none }
def DecodeFirstWrongFalsely : Prop := decodeFirstRow.holds Tryz.pinned (OpenSpec.ofChange decodeFirstWrong)

/-- 'trufflelaw11.DecodeUnknown': WHATEVER THE INPUT: true; the input reads as it did. -/
def decodeUnknownSpec : ChangeSpec := { name := "decodeUnknown", fn := fun _ => fun
  | [d1, d2, d3, d4, d5, d6] => { results := [.lit (.bool true)], args := [d1, d2, d3, d4, d5, d6] }
  | _ => none }
def decodeUnknownRow : OpenClaim := { program := "ytckcojkpghiclaagreatdoor", sum := "449eaf0410d4102ca78aa08ce5905d1bdf4179c1102c0c4e0dc74cda7db84354", func := "truffle/trufflelaw11.DecodeUnknown", spec := "decodeUnknown", unfollowed := true, recurses := true, named := ["truffle/table.plains", "truffle/table.stances", "truffle/tag.wires"], plainKeys := false, apart := false, laid := [("truffle/tag.wires", laid_truffle_tag_wires), ("truffle/table.plains", laid_truffle_table_plains), ("truffle/table.stances", laid_truffle_table_stances)] }
def DecodeUnknownSaid : Prop := decodeUnknownRow.holds Tryz.pinned (OpenSpec.ofChange decodeUnknownSpec)

/-- ITS FALSE NEIGHBOUR: 'it returns false'. Refute it at one input. -/
def decodeUnknownWrong : ChangeSpec := { name := "decodeUnknown", fn := fun _ => fun
  | [d1, d2, d3, d4, d5, d6] => { results := [.lit (.bool false)], args := [d1, d2, d3, d4, d5, d6] }
  | _ => none }
def DecodeUnknownWrongFalsely : Prop := decodeUnknownRow.holds Tryz.pinned (OpenSpec.ofChange decodeUnknownWrong)

/-- 'trufflelaw11.DecodePacked': WHATEVER THE INPUT: true; the input reads as it did. -/
def decodePackedSpec : ChangeSpec := { name := "decodePacked", fn := fun _ => fun
  | [d1, d2] => { results := [.lit (.bool true)], args := [d1, d2] }
  | _ => none }
def decodePackedRow : OpenClaim := { program := "ytckcojkpghiclaagreatdoor", sum := "449eaf0410d4102ca78aa08ce5905d1bdf4179c1102c0c4e0dc74cda7db84354", func := "truffle/trufflelaw11.DecodePacked", spec := "decodePacked", unfollowed := true, recurses := true, named := ["truffle/table.plains", "truffle/table.stances", "truffle/tag.wires"], plainKeys := false, apart := false, laid := [("truffle/tag.wires", laid_truffle_tag_wires), ("truffle/table.plains", laid_truffle_table_plains), ("truffle/table.stances", laid_truffle_table_stances)] }
def DecodePackedSaid : Prop := decodePackedRow.holds Tryz.pinned (OpenSpec.ofChange decodePackedSpec)

/-- ITS FALSE NEIGHBOUR: 'it returns false'. Refute it at one input. -/
def decodePackedWrong : ChangeSpec := { name := "decodePacked", fn := fun _ => fun
  | [d1, d2] => { results := [.lit (.bool false)], args := [d1, d2] }
  | _ => none }
def DecodePackedWrongFalsely : Prop := decodePackedRow.holds Tryz.pinned (OpenSpec.ofChange decodePackedWrong)

/-- 'trufflelaw11.DecodeOwn': WHATEVER THE INPUT: true; the input reads as it did. -/
def decodeOwnSpec : ChangeSpec := { name := "decodeOwn", fn := fun _ => fun
  | [d1, d2, d3] => { results := [.lit (.bool true)], args := [d1, d2, d3] }
  | _ => none }
def decodeOwnRow : OpenClaim := { program := "ytckcojkpghiclaagreatdoor", sum := "449eaf0410d4102ca78aa08ce5905d1bdf4179c1102c0c4e0dc74cda7db84354", func := "truffle/trufflelaw11.DecodeOwn", spec := "decodeOwn", unfollowed := true, recurses := true, named := ["truffle/table.plains", "truffle/table.stances", "truffle/tag.wires"], plainKeys := false, apart := false, laid := [("truffle/tag.wires", laid_truffle_tag_wires), ("truffle/table.plains", laid_truffle_table_plains), ("truffle/table.stances", laid_truffle_table_stances)] }
def DecodeOwnSaid : Prop := decodeOwnRow.holds Tryz.pinned (OpenSpec.ofChange decodeOwnSpec)

/-- ITS FALSE NEIGHBOUR: 'it returns false'. Refute it at one input. -/
def decodeOwnWrong : ChangeSpec := { name := "decodeOwn", fn := fun _ => fun
  | [d1, d2, d3] => { results := [.lit (.bool false)], args := [d1, d2, d3] }
  | _ => none }
def DecodeOwnWrongFalsely : Prop := decodeOwnRow.holds Tryz.pinned (OpenSpec.ofChange decodeOwnWrong)

/-- 'trufflelaw11.DecodeTwice': WHATEVER THE INPUT: true; the input reads as it did. -/
def decodeTwiceSpec : ChangeSpec := { name := "decodeTwice", fn := fun _ => fun
  | [d1, d2, d3] => { results := [.lit (.bool true)], args := [d1, d2, d3] }
  | _ => none }
def decodeTwiceRow : OpenClaim := { program := "ytckcojkpghiclaagreatdoor", sum := "449eaf0410d4102ca78aa08ce5905d1bdf4179c1102c0c4e0dc74cda7db84354", func := "truffle/trufflelaw11.DecodeTwice", spec := "decodeTwice", unfollowed := true, recurses := true, named := ["truffle/table.plains", "truffle/table.stances", "truffle/tag.wires"], plainKeys := false, apart := false, laid := [("truffle/tag.wires", laid_truffle_tag_wires), ("truffle/table.plains", laid_truffle_table_plains), ("truffle/table.stances", laid_truffle_table_stances)] }
def DecodeTwiceSaid : Prop := decodeTwiceRow.holds Tryz.pinned (OpenSpec.ofChange decodeTwiceSpec)

/-- ITS FALSE NEIGHBOUR: 'it returns false'. Refute it at one input. -/
def decodeTwiceWrong : ChangeSpec := { name := "decodeTwice", fn := fun _ => fun
  | [d1, d2, d3] => { results := [.lit (.bool false)], args := [d1, d2, d3] }
  | _ => none }
def DecodeTwiceWrongFalsely : Prop := decodeTwiceRow.holds Tryz.pinned (OpenSpec.ofChange decodeTwiceWrong)

/-- 'trufflelaw11.DecodeWire': WHATEVER THE INPUT: true; the input reads as it did. -/
def decodeWireSpec : ChangeSpec := { name := "decodeWire", fn := fun _ => fun
  | [d1, d2, d3, d4, d5] => { results := [.lit (.bool true)], args := [d1, d2, d3, d4, d5] }
  | _ => none }
def decodeWireRow : OpenClaim := { program := "ytckcojkpghiclaagreatdoor", sum := "449eaf0410d4102ca78aa08ce5905d1bdf4179c1102c0c4e0dc74cda7db84354", func := "truffle/trufflelaw11.DecodeWire", spec := "decodeWire", unfollowed := true, recurses := true, named := ["truffle/table.plains", "truffle/table.stances", "truffle/tag.wires"], plainKeys := false, apart := false, laid := [("truffle/tag.wires", laid_truffle_tag_wires), ("truffle/table.plains", laid_truffle_table_plains), ("truffle/table.stances", laid_truffle_table_stances)] }
def DecodeWireSaid : Prop := decodeWireRow.holds Tryz.pinned (OpenSpec.ofChange decodeWireSpec)

/-- ITS FALSE NEIGHBOUR: 'it returns false'. Refute it at one input. -/
def decodeWireWrong : ChangeSpec := { name := "decodeWire", fn := fun _ => fun
  | [d1, d2, d3, d4, d5] => { results := [.lit (.bool false)], args := [d1, d2, d3, d4, d5] }
  | _ => none }
def DecodeWireWrongFalsely : Prop := decodeWireRow.holds Tryz.pinned (OpenSpec.ofChange decodeWireWrong)

/-- 'trufflelaw12.EncodeBack': WHATEVER THE INPUT: true; the input reads as it did. -/
def encodeBackSpec : ChangeSpec := { name := "encodeBack", fn := fun _ => fun
  | [d1, d2, d3] => { results := [.lit (.bool true)], args := [d1, d2, d3] }
  | _ => none }
def encodeBackRow : OpenClaim := { program := "ytckcojkpghiclaagreatdoor", sum := "449eaf0410d4102ca78aa08ce5905d1bdf4179c1102c0c4e0dc74cda7db84354", func := "truffle/trufflelaw12.EncodeBack", spec := "encodeBack", unfollowed := true, recurses := true, named := ["truffle/table.plains", "truffle/table.stances", "truffle/tag.wires"], loops := true, plainKeys := false, apart := false, laid := [("truffle/tag.wires", laid_truffle_tag_wires), ("truffle/table.plains", laid_truffle_table_plains), ("truffle/table.stances", laid_truffle_table_stances)] }
def EncodeBackSaid : Prop := encodeBackRow.holds Tryz.pinned (OpenSpec.ofChange encodeBackSpec)

/-- ITS FALSE NEIGHBOUR: 'it returns false'. Refute it at one input. -/
def encodeBackWrong : ChangeSpec := { name := "encodeBack", fn := fun _ => fun
  | [d1, d2, d3] => { results := [.lit (.bool false)], args := [d1, d2, d3] }
  | _ => none }
def EncodeBackWrongFalsely : Prop := encodeBackRow.holds Tryz.pinned (OpenSpec.ofChange encodeBackWrong)

/-- 'trufflelaw12.EncodeAgain': WHATEVER THE INPUT: true; the input reads as it did. -/
def encodeAgainSpec : ChangeSpec := { name := "encodeAgain", fn := fun _ => fun
  | [d1, d2, d3] => { results := [.lit (.bool true)], args := [d1, d2, d3] }
  | _ => none }
def encodeAgainRow : OpenClaim := { program := "ytckcojkpghiclaagreatdoor", sum := "449eaf0410d4102ca78aa08ce5905d1bdf4179c1102c0c4e0dc74cda7db84354", func := "truffle/trufflelaw12.EncodeAgain", spec := "encodeAgain", unfollowed := true, recurses := true, named := ["truffle/table.plains", "truffle/table.stances", "truffle/tag.wires"], plainKeys := false, apart := false, laid := [("truffle/tag.wires", laid_truffle_tag_wires), ("truffle/table.plains", laid_truffle_table_plains), ("truffle/table.stances", laid_truffle_table_stances)] }
def EncodeAgainSaid : Prop := encodeAgainRow.holds Tryz.pinned (OpenSpec.ofChange encodeAgainSpec)

/-- ITS FALSE NEIGHBOUR: 'it returns false'. Refute it at one input. -/
def encodeAgainWrong : ChangeSpec := { name := "encodeAgain", fn := fun _ => fun
  | [d1, d2, d3] => { results := [.lit (.bool false)], args := [d1, d2, d3] }
  | _ => none }
def EncodeAgainWrongFalsely : Prop := encodeAgainRow.holds Tryz.pinned (OpenSpec.ofChange encodeAgainWrong)

/- THE SECOND FORM. 'bulk': how many values and letters a reading holds, each counted each time it is reached (what is shared counts as often as it is met; a slice's spare places count too). A statement '..UptoSaid' is the law's where the arguments, and the package variables that the reading takes, are together of bulk at most 1048576: NARROWER than '..Said'. Prove '..Said' where nothing that the law and all that it calls make is longer than what came in: it says more and counts as full. Else prove '..UptoSaid'. A law counts once. -/
mutual
def uptoBulk {H : Type} : DataW H → Nat
  | .lit (.string bytes) => bytes.length + 1
  | .lit _ => 1
  | .nil => 1
  | .ptr d => uptoBulk d + 1
  | .slice elems spare => uptoBulkAll elems + uptoBulkAll spare + 1
  | .agg parts => uptoBulkAll parts + 1
  | .iface _ d => uptoBulk d + 1
  | .map entries => uptoBulkEntries entries + 1
  | .held _ => 1
def uptoBulkAll {H : Type} : List (DataW H) → Nat
  | [] => 0
  | d :: r => uptoBulk d + uptoBulkAll r
def uptoBulkEntries {H : Type} : List (Lit × DataW H) → Nat
  | [] => 0
  | x :: r => uptoBulkEntry x + uptoBulkEntries r
def uptoBulkEntry {H : Type} : Lit × DataW H → Nat
  | (.string bytes, d) => bytes.length + uptoBulk d + 1
  | (_, d) => uptoBulk d + 1
 end
def uptoSmall : (H : Type) → List (DataW H) → Bool := fun _ ds => decide (uptoBulkAll ds ≤ 1048576)
def OpenSpec.upto (s : _root_.Go.ChangeSpec) : _root_.Go.OpenSpec := { _root_.Go.OpenSpec.ofChange s with cond := some uptoSmall }

/-- 'trufflelaw11.DecodeNormal', WHERE WHAT IT READS IS OF BULK AT MOST 1048576: true; the input reads as it did. -/
def decodeNormalUptoRow : OpenClaim := { program := "ytckcojkpghiclaagreatdoor", sum := "449eaf0410d4102ca78aa08ce5905d1bdf4179c1102c0c4e0dc74cda7db84354", func := "truffle/trufflelaw11.DecodeNormal", spec := "decodeNormal", unfollowed := true, recurses := true, named := ["truffle/table.plains", "truffle/table.stances", "truffle/tag.wires"], plainKeys := false, apart := false, laid := [("truffle/tag.wires", laid_truffle_tag_wires), ("truffle/table.plains", laid_truffle_table_plains), ("truffle/table.stances", laid_truffle_table_stances)], narrowed := true }
def DecodeNormalUptoSaid : Prop := decodeNormalUptoRow.holds Tryz.pinned (OpenSpec.upto decodeNormalSpec)

/-- 'trufflelaw11.DecodeFirst', WHERE WHAT IT READS IS OF BULK AT MOST 1048576: true; the input reads as it did. -/
def decodeFirstUptoRow : OpenClaim := { program := "ytckcojkpghiclaagreatdoor", sum := "449eaf0410d4102ca78aa08ce5905d1bdf4179c1102c0c4e0dc74cda7db84354", func := "truffle/trufflelaw11.DecodeFirst", spec := "decodeFirst", unfollowed := true, recurses := true, named := ["truffle/table.plains", "truffle/table.stances", "truffle/tag.wires"], plainKeys := false, apart := false, laid := [("truffle/tag.wires", laid_truffle_tag_wires), ("truffle/table.plains", laid_truffle_table_plains), ("truffle/table.stances", laid_truffle_table_stances)], narrowed := true }
def DecodeFirstUptoSaid : Prop := decodeFirstUptoRow.holds Tryz.pinned (OpenSpec.upto decodeFirstSpec)

/-- 'trufflelaw11.DecodeUnknown', WHERE WHAT IT READS IS OF BULK AT MOST 1048576: true; the input reads as it did. -/
def decodeUnknownUptoRow : OpenClaim := { program := "ytckcojkpghiclaagreatdoor", sum := "449eaf0410d4102ca78aa08ce5905d1bdf4179c1102c0c4e0dc74cda7db84354", func := "truffle/trufflelaw11.DecodeUnknown", spec := "decodeUnknown", unfollowed := true, recurses := true, named := ["truffle/table.plains", "truffle/table.stances", "truffle/tag.wires"], plainKeys := false, apart := false, laid := [("truffle/tag.wires", laid_truffle_tag_wires), ("truffle/table.plains", laid_truffle_table_plains), ("truffle/table.stances", laid_truffle_table_stances)], narrowed := true }
def DecodeUnknownUptoSaid : Prop := decodeUnknownUptoRow.holds Tryz.pinned (OpenSpec.upto decodeUnknownSpec)

/-- 'trufflelaw11.DecodePacked', WHERE WHAT IT READS IS OF BULK AT MOST 1048576: true; the input reads as it did. -/
def decodePackedUptoRow : OpenClaim := { program := "ytckcojkpghiclaagreatdoor", sum := "449eaf0410d4102ca78aa08ce5905d1bdf4179c1102c0c4e0dc74cda7db84354", func := "truffle/trufflelaw11.DecodePacked", spec := "decodePacked", unfollowed := true, recurses := true, named := ["truffle/table.plains", "truffle/table.stances", "truffle/tag.wires"], plainKeys := false, apart := false, laid := [("truffle/tag.wires", laid_truffle_tag_wires), ("truffle/table.plains", laid_truffle_table_plains), ("truffle/table.stances", laid_truffle_table_stances)], narrowed := true }
def DecodePackedUptoSaid : Prop := decodePackedUptoRow.holds Tryz.pinned (OpenSpec.upto decodePackedSpec)

/-- 'trufflelaw11.DecodeOwn', WHERE WHAT IT READS IS OF BULK AT MOST 1048576: true; the input reads as it did. -/
def decodeOwnUptoRow : OpenClaim := { program := "ytckcojkpghiclaagreatdoor", sum := "449eaf0410d4102ca78aa08ce5905d1bdf4179c1102c0c4e0dc74cda7db84354", func := "truffle/trufflelaw11.DecodeOwn", spec := "decodeOwn", unfollowed := true, recurses := true, named := ["truffle/table.plains", "truffle/table.stances", "truffle/tag.wires"], plainKeys := false, apart := false, laid := [("truffle/tag.wires", laid_truffle_tag_wires), ("truffle/table.plains", laid_truffle_table_plains), ("truffle/table.stances", laid_truffle_table_stances)], narrowed := true }
def DecodeOwnUptoSaid : Prop := decodeOwnUptoRow.holds Tryz.pinned (OpenSpec.upto decodeOwnSpec)

/-- 'trufflelaw11.DecodeTwice', WHERE WHAT IT READS IS OF BULK AT MOST 1048576: true; the input reads as it did. -/
def decodeTwiceUptoRow : OpenClaim := { program := "ytckcojkpghiclaagreatdoor", sum := "449eaf0410d4102ca78aa08ce5905d1bdf4179c1102c0c4e0dc74cda7db84354", func := "truffle/trufflelaw11.DecodeTwice", spec := "decodeTwice", unfollowed := true, recurses := true, named := ["truffle/table.plains", "truffle/table.stances", "truffle/tag.wires"], plainKeys := false, apart := false, laid := [("truffle/tag.wires", laid_truffle_tag_wires), ("truffle/table.plains", laid_truffle_table_plains), ("truffle/table.stances", laid_truffle_table_stances)], narrowed := true }
def DecodeTwiceUptoSaid : Prop := decodeTwiceUptoRow.holds Tryz.pinned (OpenSpec.upto decodeTwiceSpec)

/-- 'trufflelaw11.DecodeWire', WHERE WHAT IT READS IS OF BULK AT MOST 1048576: true; the input reads as it did. -/
def decodeWireUptoRow : OpenClaim := { program := "ytckcojkpghiclaagreatdoor", sum := "449eaf0410d4102ca78aa08ce5905d1bdf4179c1102c0c4e0dc74cda7db84354", func := "truffle/trufflelaw11.DecodeWire", spec := "decodeWire", unfollowed := true, recurses := true, named := ["truffle/table.plains", "truffle/table.stances", "truffle/tag.wires"], plainKeys := false, apart := false, laid := [("truffle/tag.wires", laid_truffle_tag_wires), ("truffle/table.plains", laid_truffle_table_plains), ("truffle/table.stances", laid_truffle_table_stances)], narrowed := true }
def DecodeWireUptoSaid : Prop := decodeWireUptoRow.holds Tryz.pinned (OpenSpec.upto decodeWireSpec)

/-- 'trufflelaw12.EncodeBack', WHERE WHAT IT READS IS OF BULK AT MOST 1048576: true; the input reads as it did. -/
def encodeBackUptoRow : OpenClaim := { program := "ytckcojkpghiclaagreatdoor", sum := "449eaf0410d4102ca78aa08ce5905d1bdf4179c1102c0c4e0dc74cda7db84354", func := "truffle/trufflelaw12.EncodeBack", spec := "encodeBack", unfollowed := true, recurses := true, named := ["truffle/table.plains", "truffle/table.stances", "truffle/tag.wires"], loops := true, plainKeys := false, apart := false, laid := [("truffle/tag.wires", laid_truffle_tag_wires), ("truffle/table.plains", laid_truffle_table_plains), ("truffle/table.stances", laid_truffle_table_stances)], narrowed := true }
def EncodeBackUptoSaid : Prop := encodeBackUptoRow.holds Tryz.pinned (OpenSpec.upto encodeBackSpec)

/-- 'trufflelaw12.EncodeAgain', WHERE WHAT IT READS IS OF BULK AT MOST 1048576: true; the input reads as it did. -/
def encodeAgainUptoRow : OpenClaim := { program := "ytckcojkpghiclaagreatdoor", sum := "449eaf0410d4102ca78aa08ce5905d1bdf4179c1102c0c4e0dc74cda7db84354", func := "truffle/trufflelaw12.EncodeAgain", spec := "encodeAgain", unfollowed := true, recurses := true, named := ["truffle/table.plains", "truffle/table.stances", "truffle/tag.wires"], plainKeys := false, apart := false, laid := [("truffle/tag.wires", laid_truffle_tag_wires), ("truffle/table.plains", laid_truffle_table_plains), ("truffle/table.stances", laid_truffle_table_stances)], narrowed := true }
def EncodeAgainUptoSaid : Prop := encodeAgainUptoRow.holds Tryz.pinned (OpenSpec.upto encodeAgainSpec)

end Rows
end Go.Proofs.YtckcojkpghiclaaGreatDoor
