/-
  NARROWER THAN 'FOR EVERY INPUT', by the rows' own cells (each row's printed sentence says how): TypedTells: loops, laid · TypedNormal: loops, laid · TypedSlots: loops, laid · TypedLess: loops, laid · DecodeNormal: laid · DecodeFirst: laid · DecodeUnknown: laid · DecodePacked: laid · DecodeOwn: laid · DecodeTwice: laid · DecodeNumbers: laid · DecodeWire: laid.
  DERIVED. THE GIVEN ROWS OF THIS SEAT. 12 by the template 'for every input the law returns true; each argument reads behind the call as it read before'; 0 by the template 'total and deterministic' (their statements: YtggcjdajmbkpiaaGreatDoorTotals.lean).
  GIVEN WITH THE SEED: the statements are not yours to turn. If you find one false, say at which input.
  Laid BY PROGRAM, IN A SANDBOX (cutbox-rows.mjs): the forced cells as the released guide's own fill.sh prints them over the translation e4dfd6c012e86864… (all of the seat's roots in one cut). By AI agents, Wed Nov 11 2026. No macro, syntax, notation, axiom, sorry.
-/
import Derived.Test.YtggcjdajmbkpiaaGreatDoorChecked
import GoSem.Claim
import GoSem.ClaimJoined
import GoSem.ClaimMapViews
import Derived.JoinedTies
import Derived.KernelRfl
namespace Go.Proofs.YtggcjdajmbkpiaaGreatDoor
/- THE CELL 'sum', in the pinned program and in every row, IS THE sha256 OF THE DUMP (.gsa) THAT YtggcjdajmbkpiaaGreatDoorProg.lean LOADS. Nothing in Lean hashes anything: it is a label: what it is worth is what the hold of that sum in a sandbox is worth. -/
noncomputable def Tryz.pinned : Pinned := { name := "ytggcjdajmbkpiaagreatdoor", sum := "e4dfd6c012e86864558a8b712c786ac2919073c58fc87c4095de084d1f7000aa", checked := Tryz.checked }
namespace Rows
def none {H : Type} : Left H := { results := [], args := [] }

/- WHAT THE LISTED PACKAGE-LEVEL VARIABLES READ AS WHEN THE CALL BEGINS. Each datum BY PROGRAM (the guide's laid-datum.mjs) off the statement by which the dump's own 'gosem.cut.vars' lays the variable. In a bare row this is a premise. The card (YtggcjdajmbkpiaaGreatDoorCards.lean) ties it to the program's text. -/
def laid_truffle_table_plains {H : Type} : DataW H := .agg [.agg [.lit (.string [105, 110, 116, 54, 52]), .lit (.int .i64 0)], .agg [.lit (.string [115, 105, 110, 116, 54, 52]), .lit (.int .i64 1)], .agg [.lit (.string [117, 105, 110, 116, 51, 50]), .lit (.int .i64 2)], .agg [.lit (.string [98, 111, 111, 108]), .lit (.int .i64 3)], .agg [.lit (.string [102, 105, 120, 101, 100, 51, 50]), .lit (.int .i64 4)], .agg [.lit (.string [115, 102, 105, 120, 101, 100, 54, 52]), .lit (.int .i64 5)], .agg [.lit (.string [115, 116, 114, 105, 110, 103]), .lit (.int .i64 7)], .agg [.lit (.string [98, 121, 116, 101, 115]), .lit (.int .i64 8)]]
def laid_truffle_table_stances {H : Type} : DataW H := .agg [.agg [.lit (.bool false), .lit (.bool false), .lit (.bool false)], .agg [.lit (.bool true), .lit (.bool false), .lit (.bool false)], .agg [.lit (.bool false), .lit (.bool true), .lit (.bool false)], .agg [.lit (.bool false), .lit (.bool false), .lit (.bool true)]]
def laid_truffle_tag_wires {H : Type} : DataW H := .agg [.lit (.int .i64 0), .lit (.int .i64 1), .lit (.int .i64 2), .lit (.int .i64 5)]

/-- 'trufflelaw10.TypedTells': WHATEVER THE INPUT: true; the input reads as it did. -/
def typedTellsSpec : ChangeSpec := { name := "typedTells", fn := fun _ => fun
  | [d1, d2, d3, d4, d5, d6] => { results := [.lit (.bool true)], args := [d1, d2, d3, d4, d5, d6] }
  | _ => none }
def typedTellsRow : OpenClaim := { program := "ytggcjdajmbkpiaagreatdoor", sum := "e4dfd6c012e86864558a8b712c786ac2919073c58fc87c4095de084d1f7000aa", func := "truffle/trufflelaw10.TypedTells", spec := "typedTells", unfollowed := true, recurses := true, named := ["truffle/table.plains", "truffle/table.stances"], loops := true, plainKeys := false, apart := false, laid := [("truffle/table.plains", laid_truffle_table_plains), ("truffle/table.stances", laid_truffle_table_stances)] }
def TypedTellsSaid : Prop := typedTellsRow.holds Tryz.pinned (OpenSpec.ofChange typedTellsSpec)

/-- ITS FALSE NEIGHBOUR: 'it returns false'. Refute it at one input. -/
def typedTellsWrong : ChangeSpec := { name := "typedTells", fn := fun _ => fun
  | [d1, d2, d3, d4, d5, d6] => { results := [.lit (.bool false)], args := [d1, d2, d3, d4, d5, d6] }
  | _ => none }
def TypedTellsWrongFalsely : Prop := typedTellsRow.holds Tryz.pinned (OpenSpec.ofChange typedTellsWrong)

/-- 'trufflelaw10.TypedNormal': WHATEVER THE INPUT: true; the input reads as it did. -/
def typedNormalSpec : ChangeSpec := { name := "typedNormal", fn := fun _ => fun
  | [d1, d2, d3] => { results := [.lit (.bool true)], args := [d1, d2, d3] }
  | _ => none }
def typedNormalRow : OpenClaim := { program := "ytggcjdajmbkpiaagreatdoor", sum := "e4dfd6c012e86864558a8b712c786ac2919073c58fc87c4095de084d1f7000aa", func := "truffle/trufflelaw10.TypedNormal", spec := "typedNormal", unfollowed := true, recurses := true, named := ["truffle/table.plains", "truffle/table.stances"], loops := true, plainKeys := false, apart := false, laid := [("truffle/table.plains", laid_truffle_table_plains), ("truffle/table.stances", laid_truffle_table_stances)] }
def TypedNormalSaid : Prop := typedNormalRow.holds Tryz.pinned (OpenSpec.ofChange typedNormalSpec)

/-- ITS FALSE NEIGHBOUR: 'it returns false'. Refute it at one input. -/
def typedNormalWrong : ChangeSpec := { name := "typedNormal", fn := fun _ => fun
  | [d1, d2, d3] => { results := [.lit (.bool false)], args := [d1, d2, d3] }
  | _ => none }
def TypedNormalWrongFalsely : Prop := typedNormalRow.holds Tryz.pinned (OpenSpec.ofChange typedNormalWrong)

/-- 'trufflelaw10.TypedSlots': WHATEVER THE INPUT: true; the input reads as it did. -/
def typedSlotsSpec : ChangeSpec := { name := "typedSlots", fn := fun _ => fun
  | [d1, d2, d3, d4, d5] => { results := [.lit (.bool true)], args := [d1, d2, d3, d4, d5] }
  | _ => none }
def typedSlotsRow : OpenClaim := { program := "ytggcjdajmbkpiaagreatdoor", sum := "e4dfd6c012e86864558a8b712c786ac2919073c58fc87c4095de084d1f7000aa", func := "truffle/trufflelaw10.TypedSlots", spec := "typedSlots", unfollowed := true, recurses := true, named := ["truffle/table.plains", "truffle/table.stances"], loops := true, plainKeys := false, apart := false, laid := [("truffle/table.plains", laid_truffle_table_plains), ("truffle/table.stances", laid_truffle_table_stances)] }
def TypedSlotsSaid : Prop := typedSlotsRow.holds Tryz.pinned (OpenSpec.ofChange typedSlotsSpec)

/-- ITS FALSE NEIGHBOUR: 'it returns false'. Refute it at one input. -/
def typedSlotsWrong : ChangeSpec := { name := "typedSlots", fn := fun _ => fun
  | [d1, d2, d3, d4, d5] => { results := [.lit (.bool false)], args := [d1, d2, d3, d4, d5] }
  | _ => none }
def TypedSlotsWrongFalsely : Prop := typedSlotsRow.holds Tryz.pinned (OpenSpec.ofChange typedSlotsWrong)

/-- 'trufflelaw10.TypedLess': WHATEVER THE INPUT: true; the input reads as it did. -/
def typedLessSpec : ChangeSpec := { name := "typedLess", fn := fun _ => fun
  | [d1, d2, d3, d4] => { results := [.lit (.bool true)], args := [d1, d2, d3, d4] }
  | _ => none }
def typedLessRow : OpenClaim := { program := "ytggcjdajmbkpiaagreatdoor", sum := "e4dfd6c012e86864558a8b712c786ac2919073c58fc87c4095de084d1f7000aa", func := "truffle/trufflelaw10.TypedLess", spec := "typedLess", inPlace := ["slices.overlaps[truffle/api.Slot]"], unfollowed := true, recurses := true, named := ["truffle/table.plains", "truffle/table.stances"], loops := true, plainKeys := false, apart := false, laid := [("truffle/table.plains", laid_truffle_table_plains), ("truffle/table.stances", laid_truffle_table_stances)] }
def TypedLessSaid : Prop := typedLessRow.holds Tryz.pinned (OpenSpec.ofChange typedLessSpec)

/-- ITS FALSE NEIGHBOUR: 'it returns false'. Refute it at one input. -/
def typedLessWrong : ChangeSpec := { name := "typedLess", fn := fun _ => fun
  | [d1, d2, d3, d4] => { results := [.lit (.bool false)], args := [d1, d2, d3, d4] }
  | _ => none }
def TypedLessWrongFalsely : Prop := typedLessRow.holds Tryz.pinned (OpenSpec.ofChange typedLessWrong)

/-- 'trufflelaw11.DecodeNormal': WHATEVER THE INPUT: true; the input reads as it did. -/
def decodeNormalSpec : ChangeSpec := { name := "decodeNormal", fn := fun _ => fun
  | [d1, d2, d3] => { results := [.lit (.bool true)], args := [d1, d2, d3] }
  | _ => none }
def decodeNormalRow : OpenClaim := { program := "ytggcjdajmbkpiaagreatdoor", sum := "e4dfd6c012e86864558a8b712c786ac2919073c58fc87c4095de084d1f7000aa", func := "truffle/trufflelaw11.DecodeNormal", spec := "decodeNormal", unfollowed := true, recurses := true, named := ["truffle/table.plains", "truffle/table.stances", "truffle/tag.wires"], plainKeys := false, apart := false, laid := [("truffle/tag.wires", laid_truffle_tag_wires), ("truffle/table.plains", laid_truffle_table_plains), ("truffle/table.stances", laid_truffle_table_stances)] }
def DecodeNormalSaid : Prop := decodeNormalRow.holds Tryz.pinned (OpenSpec.ofChange decodeNormalSpec)

/-- ITS FALSE NEIGHBOUR: 'it returns false'. Refute it at one input. -/
def decodeNormalWrong : ChangeSpec := { name := "decodeNormal", fn := fun _ => fun
  | [d1, d2, d3] => { results := [.lit (.bool false)], args := [d1, d2, d3] }
  | _ => none }
def DecodeNormalWrongFalsely : Prop := decodeNormalRow.holds Tryz.pinned (OpenSpec.ofChange decodeNormalWrong)

/-- 'trufflelaw11.DecodeFirst': WHATEVER THE INPUT: true; the input reads as it did. -/
def decodeFirstSpec : ChangeSpec := { name := "decodeFirst", fn := fun _ => fun
  | [d1, d2, d3, d4] => { results := [.lit (.bool true)], args := [d1, d2, d3, d4] }
  | _ => none }
def decodeFirstRow : OpenClaim := { program := "ytggcjdajmbkpiaagreatdoor", sum := "e4dfd6c012e86864558a8b712c786ac2919073c58fc87c4095de084d1f7000aa", func := "truffle/trufflelaw11.DecodeFirst", spec := "decodeFirst", unfollowed := true, recurses := true, named := ["truffle/table.plains", "truffle/table.stances", "truffle/tag.wires"], plainKeys := false, apart := false, laid := [("truffle/tag.wires", laid_truffle_tag_wires), ("truffle/table.plains", laid_truffle_table_plains), ("truffle/table.stances", laid_truffle_table_stances)] }
def DecodeFirstSaid : Prop := decodeFirstRow.holds Tryz.pinned (OpenSpec.ofChange decodeFirstSpec)

/-- ITS FALSE NEIGHBOUR: 'it returns false'. Refute it at one input. -/
def decodeFirstWrong : ChangeSpec := { name := "decodeFirst", fn := fun _ => fun
  | [d1, d2, d3, d4] => { results := [.lit (.bool false)], args := [d1, d2, d3, d4] }
  | _ => none }
def DecodeFirstWrongFalsely : Prop := decodeFirstRow.holds Tryz.pinned (OpenSpec.ofChange decodeFirstWrong)

/-- 'trufflelaw11.DecodeUnknown': WHATEVER THE INPUT: true; the input reads as it did. -/
def decodeUnknownSpec : ChangeSpec := { name := "decodeUnknown", fn := fun _ => fun
  | [d1, d2, d3, d4, d5, d6] => { results := [.lit (.bool true)], args := [d1, d2, d3, d4, d5, d6] }
  | _ => none }
def decodeUnknownRow : OpenClaim := { program := "ytggcjdajmbkpiaagreatdoor", sum := "e4dfd6c012e86864558a8b712c786ac2919073c58fc87c4095de084d1f7000aa", func := "truffle/trufflelaw11.DecodeUnknown", spec := "decodeUnknown", unfollowed := true, recurses := true, named := ["truffle/table.plains", "truffle/table.stances", "truffle/tag.wires"], plainKeys := false, apart := false, laid := [("truffle/tag.wires", laid_truffle_tag_wires), ("truffle/table.plains", laid_truffle_table_plains), ("truffle/table.stances", laid_truffle_table_stances)] }
def DecodeUnknownSaid : Prop := decodeUnknownRow.holds Tryz.pinned (OpenSpec.ofChange decodeUnknownSpec)

/-- ITS FALSE NEIGHBOUR: 'it returns false'. Refute it at one input. -/
def decodeUnknownWrong : ChangeSpec := { name := "decodeUnknown", fn := fun _ => fun
  | [d1, d2, d3, d4, d5, d6] => { results := [.lit (.bool false)], args := [d1, d2, d3, d4, d5, d6] }
  | _ => none }
def DecodeUnknownWrongFalsely : Prop := decodeUnknownRow.holds Tryz.pinned (OpenSpec.ofChange decodeUnknownWrong)

/-- 'trufflelaw11.DecodePacked': WHATEVER THE INPUT: true; the input reads as it did. -/
def decodePackedSpec : ChangeSpec := { name := "decodePacked", fn := fun _ => fun
  | [d1, d2] => { results := [.lit (.bool true)], args := [d1, d2] }
  | _ => none }
def decodePackedRow : OpenClaim := { program := "ytggcjdajmbkpiaagreatdoor", sum := "e4dfd6c012e86864558a8b712c786ac2919073c58fc87c4095de084d1f7000aa", func := "truffle/trufflelaw11.DecodePacked", spec := "decodePacked", unfollowed := true, recurses := true, named := ["truffle/table.plains", "truffle/table.stances", "truffle/tag.wires"], plainKeys := false, apart := false, laid := [("truffle/tag.wires", laid_truffle_tag_wires), ("truffle/table.plains", laid_truffle_table_plains), ("truffle/table.stances", laid_truffle_table_stances)] }
def DecodePackedSaid : Prop := decodePackedRow.holds Tryz.pinned (OpenSpec.ofChange decodePackedSpec)

/-- ITS FALSE NEIGHBOUR: 'it returns false'. Refute it at one input. -/
def decodePackedWrong : ChangeSpec := { name := "decodePacked", fn := fun _ => fun
  | [d1, d2] => { results := [.lit (.bool false)], args := [d1, d2] }
  | _ => none }
def DecodePackedWrongFalsely : Prop := decodePackedRow.holds Tryz.pinned (OpenSpec.ofChange decodePackedWrong)

/-- 'trufflelaw11.DecodeOwn': WHATEVER THE INPUT: true; the input reads as it did. -/
def decodeOwnSpec : ChangeSpec := { name := "decodeOwn", fn := fun _ => fun
  | [d1, d2, d3] => { results := [.lit (.bool true)], args := [d1, d2, d3] }
  | _ => none }
def decodeOwnRow : OpenClaim := { program := "ytggcjdajmbkpiaagreatdoor", sum := "e4dfd6c012e86864558a8b712c786ac2919073c58fc87c4095de084d1f7000aa", func := "truffle/trufflelaw11.DecodeOwn", spec := "decodeOwn", unfollowed := true, recurses := true, named := ["truffle/table.plains", "truffle/table.stances", "truffle/tag.wires"], plainKeys := false, apart := false, laid := [("truffle/tag.wires", laid_truffle_tag_wires), ("truffle/table.plains", laid_truffle_table_plains), ("truffle/table.stances", laid_truffle_table_stances)] }
def DecodeOwnSaid : Prop := decodeOwnRow.holds Tryz.pinned (OpenSpec.ofChange decodeOwnSpec)

/-- ITS FALSE NEIGHBOUR: 'it returns false'. Refute it at one input. -/
def decodeOwnWrong : ChangeSpec := { name := "decodeOwn", fn := fun _ => fun
  | [d1, d2, d3] => { results := [.lit (.bool false)], args := [d1, d2, d3] }
  | _ => none }
def DecodeOwnWrongFalsely : Prop := decodeOwnRow.holds Tryz.pinned (OpenSpec.ofChange decodeOwnWrong)

/-- 'trufflelaw11.DecodeTwice': WHATEVER THE INPUT: true; the input reads as it did. -/
def decodeTwiceSpec : ChangeSpec := { name := "decodeTwice", fn := fun _ => fun
  | [d1, d2, d3] => { results := [.lit (.bool true)], args := [d1, d2, d3] }
  | _ => none }
def decodeTwiceRow : OpenClaim := { program := "ytggcjdajmbkpiaagreatdoor", sum := "e4dfd6c012e86864558a8b712c786ac2919073c58fc87c4095de084d1f7000aa", func := "truffle/trufflelaw11.DecodeTwice", spec := "decodeTwice", unfollowed := true, recurses := true, named := ["truffle/table.plains", "truffle/table.stances", "truffle/tag.wires"], plainKeys := false, apart := false, laid := [("truffle/tag.wires", laid_truffle_tag_wires), ("truffle/table.plains", laid_truffle_table_plains), ("truffle/table.stances", laid_truffle_table_stances)] }
def DecodeTwiceSaid : Prop := decodeTwiceRow.holds Tryz.pinned (OpenSpec.ofChange decodeTwiceSpec)

/-- ITS FALSE NEIGHBOUR: 'it returns false'. Refute it at one input. -/
def decodeTwiceWrong : ChangeSpec := { name := "decodeTwice", fn := fun _ => fun
  | [d1, d2, d3] => { results := [.lit (.bool false)], args := [d1, d2, d3] }
  | _ => none }
def DecodeTwiceWrongFalsely : Prop := decodeTwiceRow.holds Tryz.pinned (OpenSpec.ofChange decodeTwiceWrong)

/-- 'trufflelaw11.DecodeNumbers': WHATEVER THE INPUT: true; the input reads as it did. -/
def decodeNumbersSpec : ChangeSpec := { name := "decodeNumbers", fn := fun _ => fun
  | [d1, d2, d3] => { results := [.lit (.bool true)], args := [d1, d2, d3] }
  | _ => none }
def decodeNumbersRow : OpenClaim := { program := "ytggcjdajmbkpiaagreatdoor", sum := "e4dfd6c012e86864558a8b712c786ac2919073c58fc87c4095de084d1f7000aa", func := "truffle/trufflelaw11.DecodeNumbers", spec := "decodeNumbers", unfollowed := true, recurses := true, named := ["truffle/table.plains", "truffle/table.stances", "truffle/tag.wires"], plainKeys := false, apart := false, laid := [("truffle/tag.wires", laid_truffle_tag_wires), ("truffle/table.plains", laid_truffle_table_plains), ("truffle/table.stances", laid_truffle_table_stances)] }
def DecodeNumbersSaid : Prop := decodeNumbersRow.holds Tryz.pinned (OpenSpec.ofChange decodeNumbersSpec)

/-- ITS FALSE NEIGHBOUR: 'it returns false'. Refute it at one input. -/
def decodeNumbersWrong : ChangeSpec := { name := "decodeNumbers", fn := fun _ => fun
  | [d1, d2, d3] => { results := [.lit (.bool false)], args := [d1, d2, d3] }
  | _ => none }
def DecodeNumbersWrongFalsely : Prop := decodeNumbersRow.holds Tryz.pinned (OpenSpec.ofChange decodeNumbersWrong)

/-- 'trufflelaw11.DecodeWire': WHATEVER THE INPUT: true; the input reads as it did. -/
def decodeWireSpec : ChangeSpec := { name := "decodeWire", fn := fun _ => fun
  | [d1, d2, d3, d4, d5] => { results := [.lit (.bool true)], args := [d1, d2, d3, d4, d5] }
  | _ => none }
def decodeWireRow : OpenClaim := { program := "ytggcjdajmbkpiaagreatdoor", sum := "e4dfd6c012e86864558a8b712c786ac2919073c58fc87c4095de084d1f7000aa", func := "truffle/trufflelaw11.DecodeWire", spec := "decodeWire", unfollowed := true, recurses := true, named := ["truffle/table.plains", "truffle/table.stances", "truffle/tag.wires"], plainKeys := false, apart := false, laid := [("truffle/tag.wires", laid_truffle_tag_wires), ("truffle/table.plains", laid_truffle_table_plains), ("truffle/table.stances", laid_truffle_table_stances)] }
def DecodeWireSaid : Prop := decodeWireRow.holds Tryz.pinned (OpenSpec.ofChange decodeWireSpec)

/-- ITS FALSE NEIGHBOUR: 'it returns false'. Refute it at one input. -/
def decodeWireWrong : ChangeSpec := { name := "decodeWire", fn := fun _ => fun
  | [d1, d2, d3, d4, d5] => { results := [.lit (.bool false)], args := [d1, d2, d3, d4, d5] }
  | _ => none }
def DecodeWireWrongFalsely : Prop := decodeWireRow.holds Tryz.pinned (OpenSpec.ofChange decodeWireWrong)

/- THE SECOND FORM. 'bulk': how many values and letters a reading holds, each counted each time it is reached (what is shared counts as often as it is met; a slice's spare places count too). A statement '..UptoSaid' is the law's where the arguments, and the package variables that the reading takes, are together of bulk at most 1048576: NARROWER than '..Said'. Prove '..Said' where nothing that the law and all that it calls make is longer than what came in: it says more and counts as full. Else prove '..UptoSaid'. A law counts once. -/
mutual
def uptoBulk {H : Type} : DataW H → Nat
  | .lit (.string bytes) => bytes.length + 1
  | .lit _ => 1
  | .nil => 1
  | .ptr d => uptoBulk d + 1
  | .slice elems spare => uptoBulkAll elems + uptoBulkAll spare + 1
  | .agg parts => uptoBulkAll parts + 1
  | .iface _ d => uptoBulk d + 1
  | .map entries => uptoBulkEntries entries + 1
  | .held _ => 1
def uptoBulkAll {H : Type} : List (DataW H) → Nat
  | [] => 0
  | d :: r => uptoBulk d + uptoBulkAll r
def uptoBulkEntries {H : Type} : List (Lit × DataW H) → Nat
  | [] => 0
  | x :: r => uptoBulkEntry x + uptoBulkEntries r
def uptoBulkEntry {H : Type} : Lit × DataW H → Nat
  | (.string bytes, d) => bytes.length + uptoBulk d + 1
  | (_, d) => uptoBulk d + 1
 end
def uptoSmall : (H : Type) → List (DataW H) → Bool := fun _ ds => decide (uptoBulkAll ds ≤ 1048576)
def OpenSpec.upto (s : _root_.Go.ChangeSpec) : _root_.Go.OpenSpec := { _root_.Go.OpenSpec.ofChange s with cond := some uptoSmall }

/-- 'trufflelaw10.TypedTells', WHERE WHAT IT READS IS OF BULK AT MOST 1048576: true; the input reads as it did. -/
def typedTellsUptoRow : OpenClaim := { program := "ytggcjdajmbkpiaagreatdoor", sum := "e4dfd6c012e86864558a8b712c786ac2919073c58fc87c4095de084d1f7000aa", func := "truffle/trufflelaw10.TypedTells", spec := "typedTells", unfollowed := true, recurses := true, named := ["truffle/table.plains", "truffle/table.stances"], loops := true, plainKeys := false, apart := false, laid := [("truffle/table.plains", laid_truffle_table_plains), ("truffle/table.stances", laid_truffle_table_stances)], narrowed := true }
def TypedTellsUptoSaid : Prop := typedTellsUptoRow.holds Tryz.pinned (OpenSpec.upto typedTellsSpec)

/-- 'trufflelaw10.TypedNormal', WHERE WHAT IT READS IS OF BULK AT MOST 1048576: true; the input reads as it did. -/
def typedNormalUptoRow : OpenClaim := { program := "ytggcjdajmbkpiaagreatdoor", sum := "e4dfd6c012e86864558a8b712c786ac2919073c58fc87c4095de084d1f7000aa", func := "truffle/trufflelaw10.TypedNormal", spec := "typedNormal", unfollowed := true, recurses := true, named := ["truffle/table.plains", "truffle/table.stances"], loops := true, plainKeys := false, apart := false, laid := [("truffle/table.plains", laid_truffle_table_plains), ("truffle/table.stances", laid_truffle_table_stances)], narrowed := true }
def TypedNormalUptoSaid : Prop := typedNormalUptoRow.holds Tryz.pinned (OpenSpec.upto typedNormalSpec)

/-- 'trufflelaw10.TypedSlots', WHERE WHAT IT READS IS OF BULK AT MOST 1048576: true; the input reads as it did. -/
def typedSlotsUptoRow : OpenClaim := { program := "ytggcjdajmbkpiaagreatdoor", sum := "e4dfd6c012e86864558a8b712c786ac2919073c58fc87c4095de084d1f7000aa", func := "truffle/trufflelaw10.TypedSlots", spec := "typedSlots", unfollowed := true, recurses := true, named := ["truffle/table.plains", "truffle/table.stances"], loops := true, plainKeys := false, apart := false, laid := [("truffle/table.plains", laid_truffle_table_plains), ("truffle/table.stances", laid_truffle_table_stances)], narrowed := true }
def TypedSlotsUptoSaid : Prop := typedSlotsUptoRow.holds Tryz.pinned (OpenSpec.upto typedSlotsSpec)

/-- 'trufflelaw10.TypedLess', WHERE WHAT IT READS IS OF BULK AT MOST 1048576: true; the input reads as it did. -/
def typedLessUptoRow : OpenClaim := { program := "ytggcjdajmbkpiaagreatdoor", sum := "e4dfd6c012e86864558a8b712c786ac2919073c58fc87c4095de084d1f7000aa", func := "truffle/trufflelaw10.TypedLess", spec := "typedLess", inPlace := ["slices.overlaps[truffle/api.Slot]"], unfollowed := true, recurses := true, named := ["truffle/table.plains", "truffle/table.stances"], loops := true, plainKeys := false, apart := false, laid := [("truffle/table.plains", laid_truffle_table_plains), ("truffle/table.stances", laid_truffle_table_stances)], narrowed := true }
def TypedLessUptoSaid : Prop := typedLessUptoRow.holds Tryz.pinned (OpenSpec.upto typedLessSpec)

/-- 'trufflelaw11.DecodeNormal', WHERE WHAT IT READS IS OF BULK AT MOST 1048576: true; the input reads as it did. -/
def decodeNormalUptoRow : OpenClaim := { program := "ytggcjdajmbkpiaagreatdoor", sum := "e4dfd6c012e86864558a8b712c786ac2919073c58fc87c4095de084d1f7000aa", func := "truffle/trufflelaw11.DecodeNormal", spec := "decodeNormal", unfollowed := true, recurses := true, named := ["truffle/table.plains", "truffle/table.stances", "truffle/tag.wires"], plainKeys := false, apart := false, laid := [("truffle/tag.wires", laid_truffle_tag_wires), ("truffle/table.plains", laid_truffle_table_plains), ("truffle/table.stances", laid_truffle_table_stances)], narrowed := true }
def DecodeNormalUptoSaid : Prop := decodeNormalUptoRow.holds Tryz.pinned (OpenSpec.upto decodeNormalSpec)

/-- 'trufflelaw11.DecodeFirst', WHERE WHAT IT READS IS OF BULK AT MOST 1048576: true; the input reads as it did. -/
def decodeFirstUptoRow : OpenClaim := { program := "ytggcjdajmbkpiaagreatdoor", sum := "e4dfd6c012e86864558a8b712c786ac2919073c58fc87c4095de084d1f7000aa", func := "truffle/trufflelaw11.DecodeFirst", spec := "decodeFirst", unfollowed := true, recurses := true, named := ["truffle/table.plains", "truffle/table.stances", "truffle/tag.wires"], plainKeys := false, apart := false, laid := [("truffle/tag.wires", laid_truffle_tag_wires), ("truffle/table.plains", laid_truffle_table_plains), ("truffle/table.stances", laid_truffle_table_stances)], narrowed := true }
def DecodeFirstUptoSaid : Prop := decodeFirstUptoRow.holds Tryz.pinned (OpenSpec.upto decodeFirstSpec)

/-- 'trufflelaw11.DecodeUnknown', WHERE WHAT IT READS IS OF BULK AT MOST 1048576: true; the input reads as it did. -/
def decodeUnknownUptoRow : OpenClaim := { program := "ytggcjdajmbkpiaagreatdoor", sum := "e4dfd6c012e86864558a8b712c786ac2919073c58fc87c4095de084d1f7000aa", func := "truffle/trufflelaw11.DecodeUnknown", spec := "decodeUnknown", unfollowed := true, recurses := true, named := ["truffle/table.plains", "truffle/table.stances", "truffle/tag.wires"], plainKeys := false, apart := false, laid := [("truffle/tag.wires", laid_truffle_tag_wires), ("truffle/table.plains", laid_truffle_table_plains), ("truffle/table.stances", laid_truffle_table_stances)], narrowed := true }
def DecodeUnknownUptoSaid : Prop := decodeUnknownUptoRow.holds Tryz.pinned (OpenSpec.upto decodeUnknownSpec)

/-- 'trufflelaw11.DecodePacked', WHERE WHAT IT READS IS OF BULK AT MOST 1048576: true; the input reads as it did. -/
def decodePackedUptoRow : OpenClaim := { program := "ytggcjdajmbkpiaagreatdoor", sum := "e4dfd6c012e86864558a8b712c786ac2919073c58fc87c4095de084d1f7000aa", func := "truffle/trufflelaw11.DecodePacked", spec := "decodePacked", unfollowed := true, recurses := true, named := ["truffle/table.plains", "truffle/table.stances", "truffle/tag.wires"], plainKeys := false, apart := false, laid := [("truffle/tag.wires", laid_truffle_tag_wires), ("truffle/table.plains", laid_truffle_table_plains), ("truffle/table.stances", laid_truffle_table_stances)], narrowed := true }
def DecodePackedUptoSaid : Prop := decodePackedUptoRow.holds Tryz.pinned (OpenSpec.upto decodePackedSpec)

/-- 'trufflelaw11.DecodeOwn', WHERE WHAT IT READS IS OF BULK AT MOST 1048576: true; the input reads as it did. -/
def decodeOwnUptoRow : OpenClaim := { program := "ytggcjdajmbkpiaagreatdoor", sum := "e4dfd6c012e86864558a8b712c786ac2919073c58fc87c4095de084d1f7000aa", func := "truffle/trufflelaw11.DecodeOwn", spec := "decodeOwn", unfollowed := true, recurses := true, named := ["truffle/table.plains", "truffle/table.stances", "truffle/tag.wires"], plainKeys := false, apart := false, laid := [("truffle/tag.wires", laid_truffle_tag_wires), ("truffle/table.plains", laid_truffle_table_plains), ("truffle/table.stances", laid_truffle_table_stances)], narrowed := true }
def DecodeOwnUptoSaid : Prop := decodeOwnUptoRow.holds Tryz.pinned (OpenSpec.upto decodeOwnSpec)

/-- 'trufflelaw11.DecodeTwice', WHERE WHAT IT READS IS OF BULK AT MOST 1048576: true; the input reads as it did. -/
def decodeTwiceUptoRow : OpenClaim := { program := "ytggcjdajmbkpiaagreatdoor", sum := "e4dfd6c012e86864558a8b712c786ac2919073c58fc87c4095de084d1f7000aa", func := "truffle/trufflelaw11.DecodeTwice", spec := "decodeTwice", unfollowed := true, recurses := true, named := ["truffle/table.plains", "truffle/table.stances", "truffle/tag.wires"], plainKeys := false, apart := false, laid := [("truffle/tag.wires", laid_truffle_tag_wires), ("truffle/table.plains", laid_truffle_table_plains), ("truffle/table.stances", laid_truffle_table_stances)], narrowed := true }
def DecodeTwiceUptoSaid : Prop := decodeTwiceUptoRow.holds Tryz.pinned (OpenSpec.upto decodeTwiceSpec)

/-- 'trufflelaw11.DecodeNumbers', WHERE WHAT IT READS IS OF BULK AT MOST 1048576: true; the input reads as it did. -/
def decodeNumbersUptoRow : OpenClaim := { program := "ytggcjdajmbkpiaagreatdoor", sum := "e4dfd6c012e86864558a8b712c786ac2919073c58fc87c4095de084d1f7000aa", func := "truffle/trufflelaw11.DecodeNumbers", spec := "decodeNumbers", unfollowed := true, recurses := true, named := ["truffle/table.plains", "truffle/table.stances", "truffle/tag.wires"], plainKeys := false, apart := false, laid := [("truffle/tag.wires", laid_truffle_tag_wires), ("truffle/table.plains", laid_truffle_table_plains), ("truffle/table.stances", laid_truffle_table_stances)], narrowed := true }
def DecodeNumbersUptoSaid : Prop := decodeNumbersUptoRow.holds Tryz.pinned (OpenSpec.upto decodeNumbersSpec)

/-- 'trufflelaw11.DecodeWire', WHERE WHAT IT READS IS OF BULK AT MOST 1048576: true; the input reads as it did. -/
def decodeWireUptoRow : OpenClaim := { program := "ytggcjdajmbkpiaagreatdoor", sum := "e4dfd6c012e86864558a8b712c786ac2919073c58fc87c4095de084d1f7000aa", func := "truffle/trufflelaw11.DecodeWire", spec := "decodeWire", unfollowed := true, recurses := true, named := ["truffle/table.plains", "truffle/table.stances", "truffle/tag.wires"], plainKeys := false, apart := false, laid := [("truffle/tag.wires", laid_truffle_tag_wires), ("truffle/table.plains", laid_truffle_table_plains), ("truffle/table.stances", laid_truffle_table_stances)], narrowed := true }
def DecodeWireUptoSaid : Prop := decodeWireUptoRow.holds Tryz.pinned (OpenSpec.upto decodeWireSpec)

end Rows
end Go.Proofs.YtggcjdajmbkpiaaGreatDoor
