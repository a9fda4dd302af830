/-
  DERIVED. GIVEN WITH THE SEED: THE CARDS: each row of YtjmcpfckcajnjaaGreatDoorRows.lean that lists a variable, with what it lists TIED to the program's text (the seventh form; the later family's looks); each row that meets fmt, with fmt's text TOLD by the authors' own Lean function (tested against real Go, not proved from fmt's source: count such statements apart). THE CARD IS WHAT COUNTS. Prove the row's statement (the work); the ties are given (YtjmcpfckcajnjaaGreatDoorTie.lean); close each card by the builder's one call (the guide's Derived/Test/ToyasCard.lean, 'card_holds'). Laid BY PROGRAM, IN A SANDBOX (cutbox-door.mjs). By AI agents, Wed Nov 11 2026. No macro, syntax, notation, axiom, sorry.
-/
import Derived.Test.YtjmcpfckcajnjaaGreatDoorRows
import GoSem.ClaimSeven
namespace Go.Proofs.YtjmcpfckcajnjaaGreatDoor
namespace Rows

/-- THE TIED CARD OF 'trufflelaw10.TypedTells'. -/
def typedTellsCard : Claim7 := { stood := { row := typedTellsRow, standIns := [], harness := (true, "99d7cc654ba96bd992b4f5c2a22c8a602cb1557380cbc1181b17dc55c132cec3"), looks := false }, kinds := [], alts := [], laidByText := true, laidKinds := [.data, .data], laidTests := true, laidLooks := .later }
def TypedTellsCardSaid : Prop := Claim7.holds Tryz.pinned (.plain (OpenSpec.ofChange typedTellsSpec)) typedTellsCard

/-- THE TIED CARD OF 'trufflelaw10.TypedNormal'. -/
def typedNormalCard : Claim7 := { stood := { row := typedNormalRow, standIns := [], harness := (true, "99d7cc654ba96bd992b4f5c2a22c8a602cb1557380cbc1181b17dc55c132cec3"), looks := false }, kinds := [], alts := [], laidByText := true, laidKinds := [.data, .data], laidTests := true, laidLooks := .later }
def TypedNormalCardSaid : Prop := Claim7.holds Tryz.pinned (.plain (OpenSpec.ofChange typedNormalSpec)) typedNormalCard

/-- THE TIED CARD OF 'trufflelaw10.TypedSlots'. -/
def typedSlotsCard : Claim7 := { stood := { row := typedSlotsRow, standIns := [], harness := (true, "99d7cc654ba96bd992b4f5c2a22c8a602cb1557380cbc1181b17dc55c132cec3"), looks := false }, kinds := [], alts := [], laidByText := true, laidKinds := [.data, .data], laidTests := true, laidLooks := .later }
def TypedSlotsCardSaid : Prop := Claim7.holds Tryz.pinned (.plain (OpenSpec.ofChange typedSlotsSpec)) typedSlotsCard

/-- THE TIED CARD OF 'trufflelaw10.TypedWrong'. -/
def typedWrongCard : Claim7 := { stood := { row := typedWrongRow, standIns := [], harness := (true, "99d7cc654ba96bd992b4f5c2a22c8a602cb1557380cbc1181b17dc55c132cec3"), looks := false }, kinds := [], alts := [], laidByText := true, laidKinds := [.data, .data], laidTests := true, laidLooks := .later }
def TypedWrongCardSaid : Prop := Claim7.holds Tryz.pinned (.plain (OpenSpec.ofChange typedWrongSpec)) typedWrongCard

/-- THE TIED CARD OF 'trufflelaw10.TypedLess'. -/
def typedLessCard : Claim7 := { stood := { row := typedLessRow, standIns := [], harness := (true, "99d7cc654ba96bd992b4f5c2a22c8a602cb1557380cbc1181b17dc55c132cec3"), looks := false }, kinds := [], alts := [], laidByText := true, laidKinds := [.data, .data], laidTests := true, laidLooks := .later }
def TypedLessCardSaid : Prop := Claim7.holds Tryz.pinned (.plain (OpenSpec.ofChange typedLessSpec)) typedLessCard

/-- THE TIED CARD OF 'trufflelaw10.TypedVal'. -/
def typedValCard : Claim7 := { stood := { row := typedValRow, standIns := [], harness := (true, "99d7cc654ba96bd992b4f5c2a22c8a602cb1557380cbc1181b17dc55c132cec3"), looks := false }, kinds := [], alts := [], laidByText := true, laidKinds := [.data, .data], laidTests := true, laidLooks := .later }
def TypedValCardSaid : Prop := Claim7.holds Tryz.pinned (.plain (OpenSpec.ofChange typedValSpec)) typedValCard

/-- THE SECOND FORM's CARD OF 'trufflelaw10.TypedTells'. -/
def typedTellsUptoCard : Claim7 := { stood := { row := typedTellsUptoRow, standIns := [], harness := (true, "99d7cc654ba96bd992b4f5c2a22c8a602cb1557380cbc1181b17dc55c132cec3"), looks := false }, kinds := [], alts := [], laidByText := true, laidKinds := [.data, .data], laidTests := true, laidLooks := .later }
def TypedTellsUptoCardSaid : Prop := Claim7.holds Tryz.pinned (.plain (OpenSpec.upto typedTellsSpec)) typedTellsUptoCard

/-- THE SECOND FORM's CARD OF 'trufflelaw10.TypedNormal'. -/
def typedNormalUptoCard : Claim7 := { stood := { row := typedNormalUptoRow, standIns := [], harness := (true, "99d7cc654ba96bd992b4f5c2a22c8a602cb1557380cbc1181b17dc55c132cec3"), looks := false }, kinds := [], alts := [], laidByText := true, laidKinds := [.data, .data], laidTests := true, laidLooks := .later }
def TypedNormalUptoCardSaid : Prop := Claim7.holds Tryz.pinned (.plain (OpenSpec.upto typedNormalSpec)) typedNormalUptoCard

/-- THE SECOND FORM's CARD OF 'trufflelaw10.TypedSlots'. -/
def typedSlotsUptoCard : Claim7 := { stood := { row := typedSlotsUptoRow, standIns := [], harness := (true, "99d7cc654ba96bd992b4f5c2a22c8a602cb1557380cbc1181b17dc55c132cec3"), looks := false }, kinds := [], alts := [], laidByText := true, laidKinds := [.data, .data], laidTests := true, laidLooks := .later }
def TypedSlotsUptoCardSaid : Prop := Claim7.holds Tryz.pinned (.plain (OpenSpec.upto typedSlotsSpec)) typedSlotsUptoCard

/-- THE SECOND FORM's CARD OF 'trufflelaw10.TypedWrong'. -/
def typedWrongUptoCard : Claim7 := { stood := { row := typedWrongUptoRow, standIns := [], harness := (true, "99d7cc654ba96bd992b4f5c2a22c8a602cb1557380cbc1181b17dc55c132cec3"), looks := false }, kinds := [], alts := [], laidByText := true, laidKinds := [.data, .data], laidTests := true, laidLooks := .later }
def TypedWrongUptoCardSaid : Prop := Claim7.holds Tryz.pinned (.plain (OpenSpec.upto typedWrongSpec)) typedWrongUptoCard

/-- THE SECOND FORM's CARD OF 'trufflelaw10.TypedLess'. -/
def typedLessUptoCard : Claim7 := { stood := { row := typedLessUptoRow, standIns := [], harness := (true, "99d7cc654ba96bd992b4f5c2a22c8a602cb1557380cbc1181b17dc55c132cec3"), looks := false }, kinds := [], alts := [], laidByText := true, laidKinds := [.data, .data], laidTests := true, laidLooks := .later }
def TypedLessUptoCardSaid : Prop := Claim7.holds Tryz.pinned (.plain (OpenSpec.upto typedLessSpec)) typedLessUptoCard

/-- THE SECOND FORM's CARD OF 'trufflelaw10.TypedVal'. -/
def typedValUptoCard : Claim7 := { stood := { row := typedValUptoRow, standIns := [], harness := (true, "99d7cc654ba96bd992b4f5c2a22c8a602cb1557380cbc1181b17dc55c132cec3"), looks := false }, kinds := [], alts := [], laidByText := true, laidKinds := [.data, .data], laidTests := true, laidLooks := .later }
def TypedValUptoCardSaid : Prop := Claim7.holds Tryz.pinned (.plain (OpenSpec.upto typedValSpec)) typedValUptoCard
end Rows
end Go.Proofs.YtjmcpfckcajnjaaGreatDoor
