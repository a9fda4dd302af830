/-
  DERIVED. GIVEN WITH THE SEED: THE CARDS: each row of YtggcjdajmbkpiaaGreatDoorRows.lean that lists a variable, with what it lists TIED to the program's text (the seventh form; the later family's looks); each row that meets fmt, with fmt's text TOLD by the authors' own Lean function (tested against real Go, not proved from fmt's source: count such statements apart). THE CARD IS WHAT COUNTS. Prove the row's statement (the work); the ties are given (YtggcjdajmbkpiaaGreatDoorTie.lean); close each card by the builder's one call (the guide's Derived/Test/ToyasCard.lean, 'card_holds'). Laid BY PROGRAM, IN A SANDBOX (cutbox-door.mjs). By AI agents, Wed Nov 11 2026. No macro, syntax, notation, axiom, sorry.
-/
import Derived.Test.YtggcjdajmbkpiaaGreatDoorRows
import GoSem.ClaimSeven
namespace Go.Proofs.YtggcjdajmbkpiaaGreatDoor
namespace Rows

/-- THE TIED CARD OF 'trufflelaw10.TypedTells'. -/
def typedTellsCard : Claim7 := { stood := { row := typedTellsRow, standIns := [], harness := (true, "bc73343c87d7e2518ab173570ebd1b299c38c9f9b52b16f5ede680738bc52bf6"), looks := true }, kinds := [], alts := [], laidByText := true, laidKinds := [.data, .data], laidTests := true, laidLooks := .later }
def TypedTellsCardSaid : Prop := Claim7.holds Tryz.pinned (.plain (OpenSpec.ofChange typedTellsSpec)) typedTellsCard

/-- THE TIED CARD OF 'trufflelaw10.TypedNormal'. -/
def typedNormalCard : Claim7 := { stood := { row := typedNormalRow, standIns := [], harness := (true, "bc73343c87d7e2518ab173570ebd1b299c38c9f9b52b16f5ede680738bc52bf6"), looks := true }, kinds := [], alts := [], laidByText := true, laidKinds := [.data, .data], laidTests := true, laidLooks := .later }
def TypedNormalCardSaid : Prop := Claim7.holds Tryz.pinned (.plain (OpenSpec.ofChange typedNormalSpec)) typedNormalCard

/-- THE TIED CARD OF 'trufflelaw10.TypedSlots'. -/
def typedSlotsCard : Claim7 := { stood := { row := typedSlotsRow, standIns := [], harness := (true, "bc73343c87d7e2518ab173570ebd1b299c38c9f9b52b16f5ede680738bc52bf6"), looks := true }, kinds := [], alts := [], laidByText := true, laidKinds := [.data, .data], laidTests := true, laidLooks := .later }
def TypedSlotsCardSaid : Prop := Claim7.holds Tryz.pinned (.plain (OpenSpec.ofChange typedSlotsSpec)) typedSlotsCard

/-- THE TIED CARD OF 'trufflelaw10.TypedLess'. -/
def typedLessCard : Claim7 := { stood := { row := typedLessRow, standIns := [], harness := (true, "bc73343c87d7e2518ab173570ebd1b299c38c9f9b52b16f5ede680738bc52bf6"), looks := true }, kinds := [], alts := [], laidByText := true, laidKinds := [.data, .data], laidTests := true, laidLooks := .later }
def TypedLessCardSaid : Prop := Claim7.holds Tryz.pinned (.plain (OpenSpec.ofChange typedLessSpec)) typedLessCard

/-- THE TIED CARD OF 'trufflelaw11.DecodeNormal'. -/
def decodeNormalCard : Claim7 := { stood := { row := decodeNormalRow, standIns := [], harness := (true, "bc73343c87d7e2518ab173570ebd1b299c38c9f9b52b16f5ede680738bc52bf6"), looks := true }, kinds := [], alts := [], laidByText := true, laidKinds := [.data, .data, .data], laidTests := true, laidLooks := .later }
def DecodeNormalCardSaid : Prop := Claim7.holds Tryz.pinned (.plain (OpenSpec.ofChange decodeNormalSpec)) decodeNormalCard

/-- THE TIED CARD OF 'trufflelaw11.DecodeFirst'. -/
def decodeFirstCard : Claim7 := { stood := { row := decodeFirstRow, standIns := [], harness := (true, "bc73343c87d7e2518ab173570ebd1b299c38c9f9b52b16f5ede680738bc52bf6"), looks := true }, kinds := [], alts := [], laidByText := true, laidKinds := [.data, .data, .data], laidTests := true, laidLooks := .later }
def DecodeFirstCardSaid : Prop := Claim7.holds Tryz.pinned (.plain (OpenSpec.ofChange decodeFirstSpec)) decodeFirstCard

/-- THE TIED CARD OF 'trufflelaw11.DecodeUnknown'. -/
def decodeUnknownCard : Claim7 := { stood := { row := decodeUnknownRow, standIns := [], harness := (true, "bc73343c87d7e2518ab173570ebd1b299c38c9f9b52b16f5ede680738bc52bf6"), looks := true }, kinds := [], alts := [], laidByText := true, laidKinds := [.data, .data, .data], laidTests := true, laidLooks := .later }
def DecodeUnknownCardSaid : Prop := Claim7.holds Tryz.pinned (.plain (OpenSpec.ofChange decodeUnknownSpec)) decodeUnknownCard

/-- THE TIED CARD OF 'trufflelaw11.DecodePacked'. -/
def decodePackedCard : Claim7 := { stood := { row := decodePackedRow, standIns := [], harness := (true, "bc73343c87d7e2518ab173570ebd1b299c38c9f9b52b16f5ede680738bc52bf6"), looks := true }, kinds := [], alts := [], laidByText := true, laidKinds := [.data, .data, .data], laidTests := true, laidLooks := .later }
def DecodePackedCardSaid : Prop := Claim7.holds Tryz.pinned (.plain (OpenSpec.ofChange decodePackedSpec)) decodePackedCard

/-- THE TIED CARD OF 'trufflelaw11.DecodeOwn'. -/
def decodeOwnCard : Claim7 := { stood := { row := decodeOwnRow, standIns := [], harness := (true, "bc73343c87d7e2518ab173570ebd1b299c38c9f9b52b16f5ede680738bc52bf6"), looks := true }, kinds := [], alts := [], laidByText := true, laidKinds := [.data, .data, .data], laidTests := true, laidLooks := .later }
def DecodeOwnCardSaid : Prop := Claim7.holds Tryz.pinned (.plain (OpenSpec.ofChange decodeOwnSpec)) decodeOwnCard

/-- THE TIED CARD OF 'trufflelaw11.DecodeTwice'. -/
def decodeTwiceCard : Claim7 := { stood := { row := decodeTwiceRow, standIns := [], harness := (true, "bc73343c87d7e2518ab173570ebd1b299c38c9f9b52b16f5ede680738bc52bf6"), looks := true }, kinds := [], alts := [], laidByText := true, laidKinds := [.data, .data, .data], laidTests := true, laidLooks := .later }
def DecodeTwiceCardSaid : Prop := Claim7.holds Tryz.pinned (.plain (OpenSpec.ofChange decodeTwiceSpec)) decodeTwiceCard

/-- THE TIED CARD OF 'trufflelaw11.DecodeNumbers'. -/
def decodeNumbersCard : Claim7 := { stood := { row := decodeNumbersRow, standIns := [], harness := (true, "bc73343c87d7e2518ab173570ebd1b299c38c9f9b52b16f5ede680738bc52bf6"), looks := true }, kinds := [], alts := [], laidByText := true, laidKinds := [.data, .data, .data], laidTests := true, laidLooks := .later }
def DecodeNumbersCardSaid : Prop := Claim7.holds Tryz.pinned (.plain (OpenSpec.ofChange decodeNumbersSpec)) decodeNumbersCard

/-- THE TIED CARD OF 'trufflelaw11.DecodeWire'. -/
def decodeWireCard : Claim7 := { stood := { row := decodeWireRow, standIns := [], harness := (true, "bc73343c87d7e2518ab173570ebd1b299c38c9f9b52b16f5ede680738bc52bf6"), looks := true }, kinds := [], alts := [], laidByText := true, laidKinds := [.data, .data, .data], laidTests := true, laidLooks := .later }
def DecodeWireCardSaid : Prop := Claim7.holds Tryz.pinned (.plain (OpenSpec.ofChange decodeWireSpec)) decodeWireCard

/-- THE SECOND FORM's CARD OF 'trufflelaw10.TypedTells'. -/
def typedTellsUptoCard : Claim7 := { stood := { row := typedTellsUptoRow, standIns := [], harness := (true, "bc73343c87d7e2518ab173570ebd1b299c38c9f9b52b16f5ede680738bc52bf6"), looks := true }, kinds := [], alts := [], laidByText := true, laidKinds := [.data, .data], laidTests := true, laidLooks := .later }
def TypedTellsUptoCardSaid : Prop := Claim7.holds Tryz.pinned (.plain (OpenSpec.upto typedTellsSpec)) typedTellsUptoCard

/-- THE SECOND FORM's CARD OF 'trufflelaw10.TypedNormal'. -/
def typedNormalUptoCard : Claim7 := { stood := { row := typedNormalUptoRow, standIns := [], harness := (true, "bc73343c87d7e2518ab173570ebd1b299c38c9f9b52b16f5ede680738bc52bf6"), looks := true }, kinds := [], alts := [], laidByText := true, laidKinds := [.data, .data], laidTests := true, laidLooks := .later }
def TypedNormalUptoCardSaid : Prop := Claim7.holds Tryz.pinned (.plain (OpenSpec.upto typedNormalSpec)) typedNormalUptoCard

/-- THE SECOND FORM's CARD OF 'trufflelaw10.TypedSlots'. -/
def typedSlotsUptoCard : Claim7 := { stood := { row := typedSlotsUptoRow, standIns := [], harness := (true, "bc73343c87d7e2518ab173570ebd1b299c38c9f9b52b16f5ede680738bc52bf6"), looks := true }, kinds := [], alts := [], laidByText := true, laidKinds := [.data, .data], laidTests := true, laidLooks := .later }
def TypedSlotsUptoCardSaid : Prop := Claim7.holds Tryz.pinned (.plain (OpenSpec.upto typedSlotsSpec)) typedSlotsUptoCard

/-- THE SECOND FORM's CARD OF 'trufflelaw10.TypedLess'. -/
def typedLessUptoCard : Claim7 := { stood := { row := typedLessUptoRow, standIns := [], harness := (true, "bc73343c87d7e2518ab173570ebd1b299c38c9f9b52b16f5ede680738bc52bf6"), looks := true }, kinds := [], alts := [], laidByText := true, laidKinds := [.data, .data], laidTests := true, laidLooks := .later }
def TypedLessUptoCardSaid : Prop := Claim7.holds Tryz.pinned (.plain (OpenSpec.upto typedLessSpec)) typedLessUptoCard

/-- THE SECOND FORM's CARD OF 'trufflelaw11.DecodeNormal'. -/
def decodeNormalUptoCard : Claim7 := { stood := { row := decodeNormalUptoRow, standIns := [], harness := (true, "bc73343c87d7e2518ab173570ebd1b299c38c9f9b52b16f5ede680738bc52bf6"), looks := true }, kinds := [], alts := [], laidByText := true, laidKinds := [.data, .data, .data], laidTests := true, laidLooks := .later }
def DecodeNormalUptoCardSaid : Prop := Claim7.holds Tryz.pinned (.plain (OpenSpec.upto decodeNormalSpec)) decodeNormalUptoCard

/-- THE SECOND FORM's CARD OF 'trufflelaw11.DecodeFirst'. -/
def decodeFirstUptoCard : Claim7 := { stood := { row := decodeFirstUptoRow, standIns := [], harness := (true, "bc73343c87d7e2518ab173570ebd1b299c38c9f9b52b16f5ede680738bc52bf6"), looks := true }, kinds := [], alts := [], laidByText := true, laidKinds := [.data, .data, .data], laidTests := true, laidLooks := .later }
def DecodeFirstUptoCardSaid : Prop := Claim7.holds Tryz.pinned (.plain (OpenSpec.upto decodeFirstSpec)) decodeFirstUptoCard

/-- THE SECOND FORM's CARD OF 'trufflelaw11.DecodeUnknown'. -/
def decodeUnknownUptoCard : Claim7 := { stood := { row := decodeUnknownUptoRow, standIns := [], harness := (true, "bc73343c87d7e2518ab173570ebd1b299c38c9f9b52b16f5ede680738bc52bf6"), looks := true }, kinds := [], alts := [], laidByText := true, laidKinds := [.data, .data, .data], laidTests := true, laidLooks := .later }
def DecodeUnknownUptoCardSaid : Prop := Claim7.holds Tryz.pinned (.plain (OpenSpec.upto decodeUnknownSpec)) decodeUnknownUptoCard

/-- THE SECOND FORM's CARD OF 'trufflelaw11.DecodePacked'. -/
def decodePackedUptoCard : Claim7 := { stood := { row := decodePackedUptoRow, standIns := [], harness := (true, "bc73343c87d7e2518ab173570ebd1b299c38c9f9b52b16f5ede680738bc52bf6"), looks := true }, kinds := [], alts := [], laidByText := true, laidKinds := [.data, .data, .data], laidTests := true, laidLooks := .later }
def DecodePackedUptoCardSaid : Prop := Claim7.holds Tryz.pinned (.plain (OpenSpec.upto decodePackedSpec)) decodePackedUptoCard

/-- THE SECOND FORM's CARD OF 'trufflelaw11.DecodeOwn'. -/
def decodeOwnUptoCard : Claim7 := { stood := { row := decodeOwnUptoRow, standIns := [], harness := (true, "bc73343c87d7e2518ab173570ebd1b299c38c9f9b52b16f5ede680738bc52bf6"), looks := true }, kinds := [], alts := [], laidByText := true, laidKinds := [.data, .data, .data], laidTests := true, laidLooks := .later }
def DecodeOwnUptoCardSaid : Prop := Claim7.holds Tryz.pinned (.plain (OpenSpec.upto decodeOwnSpec)) decodeOwnUptoCard

/-- THE SECOND FORM's CARD OF 'trufflelaw11.DecodeTwice'. -/
def decodeTwiceUptoCard : Claim7 := { stood := { row := decodeTwiceUptoRow, standIns := [], harness := (true, "bc73343c87d7e2518ab173570ebd1b299c38c9f9b52b16f5ede680738bc52bf6"), looks := true }, kinds := [], alts := [], laidByText := true, laidKinds := [.data, .data, .data], laidTests := true, laidLooks := .later }
def DecodeTwiceUptoCardSaid : Prop := Claim7.holds Tryz.pinned (.plain (OpenSpec.upto decodeTwiceSpec)) decodeTwiceUptoCard

/-- THE SECOND FORM's CARD OF 'trufflelaw11.DecodeNumbers'. -/
def decodeNumbersUptoCard : Claim7 := { stood := { row := decodeNumbersUptoRow, standIns := [], harness := (true, "bc73343c87d7e2518ab173570ebd1b299c38c9f9b52b16f5ede680738bc52bf6"), looks := true }, kinds := [], alts := [], laidByText := true, laidKinds := [.data, .data, .data], laidTests := true, laidLooks := .later }
def DecodeNumbersUptoCardSaid : Prop := Claim7.holds Tryz.pinned (.plain (OpenSpec.upto decodeNumbersSpec)) decodeNumbersUptoCard

/-- THE SECOND FORM's CARD OF 'trufflelaw11.DecodeWire'. -/
def decodeWireUptoCard : Claim7 := { stood := { row := decodeWireUptoRow, standIns := [], harness := (true, "bc73343c87d7e2518ab173570ebd1b299c38c9f9b52b16f5ede680738bc52bf6"), looks := true }, kinds := [], alts := [], laidByText := true, laidKinds := [.data, .data, .data], laidTests := true, laidLooks := .later }
def DecodeWireUptoCardSaid : Prop := Claim7.holds Tryz.pinned (.plain (OpenSpec.upto decodeWireSpec)) decodeWireUptoCard
end Rows
end Go.Proofs.YtggcjdajmbkpiaaGreatDoor
