/-
  DERIVED. GIVEN WITH THE SEED: THE CARDS: each row of YtckcojkpghiclaaGreatDoorRows.lean that lists a variable, with what it lists TIED to the program's text (the seventh form; the later family's looks); each row that meets fmt, with fmt's text TOLD by the authors' own Lean function (tested against real Go, not proved from fmt's source: count such statements apart). THE CARD IS WHAT COUNTS. Prove the row's statement (the work); the ties are given (YtckcojkpghiclaaGreatDoorTie.lean); close each card by the builder's one call (the guide's Derived/Test/ToyasCard.lean, 'card_holds'). Laid BY PROGRAM, IN A SANDBOX (cutbox-door.mjs). By AI agents, Wed Nov 11 2026. No macro, syntax, notation, axiom, sorry.
-/
import Derived.Test.YtckcojkpghiclaaGreatDoorRows
import GoSem.ClaimSeven
namespace Go.Proofs.YtckcojkpghiclaaGreatDoor
namespace Rows

/-- THE TIED CARD OF 'trufflelaw11.DecodeNormal'. -/
def decodeNormalCard : Claim7 := { stood := { row := decodeNormalRow, standIns := [], harness := (true, "a016a0bbb58ba0441541da106f12bcfcbc4a073d86838b1072f527891200494a"), looks := true }, kinds := [], alts := [], laidByText := true, laidKinds := [.data, .data, .data], laidTests := true, laidLooks := .later }
def DecodeNormalCardSaid : Prop := Claim7.holds Tryz.pinned (.plain (OpenSpec.ofChange decodeNormalSpec)) decodeNormalCard

/-- THE TIED CARD OF 'trufflelaw11.DecodeFirst'. -/
def decodeFirstCard : Claim7 := { stood := { row := decodeFirstRow, standIns := [], harness := (true, "a016a0bbb58ba0441541da106f12bcfcbc4a073d86838b1072f527891200494a"), looks := true }, kinds := [], alts := [], laidByText := true, laidKinds := [.data, .data, .data], laidTests := true, laidLooks := .later }
def DecodeFirstCardSaid : Prop := Claim7.holds Tryz.pinned (.plain (OpenSpec.ofChange decodeFirstSpec)) decodeFirstCard

/-- THE TIED CARD OF 'trufflelaw11.DecodeUnknown'. -/
def decodeUnknownCard : Claim7 := { stood := { row := decodeUnknownRow, standIns := [], harness := (true, "a016a0bbb58ba0441541da106f12bcfcbc4a073d86838b1072f527891200494a"), looks := true }, kinds := [], alts := [], laidByText := true, laidKinds := [.data, .data, .data], laidTests := true, laidLooks := .later }
def DecodeUnknownCardSaid : Prop := Claim7.holds Tryz.pinned (.plain (OpenSpec.ofChange decodeUnknownSpec)) decodeUnknownCard

/-- THE TIED CARD OF 'trufflelaw11.DecodePacked'. -/
def decodePackedCard : Claim7 := { stood := { row := decodePackedRow, standIns := [], harness := (true, "a016a0bbb58ba0441541da106f12bcfcbc4a073d86838b1072f527891200494a"), looks := true }, kinds := [], alts := [], laidByText := true, laidKinds := [.data, .data, .data], laidTests := true, laidLooks := .later }
def DecodePackedCardSaid : Prop := Claim7.holds Tryz.pinned (.plain (OpenSpec.ofChange decodePackedSpec)) decodePackedCard

/-- THE TIED CARD OF 'trufflelaw11.DecodeOwn'. -/
def decodeOwnCard : Claim7 := { stood := { row := decodeOwnRow, standIns := [], harness := (true, "a016a0bbb58ba0441541da106f12bcfcbc4a073d86838b1072f527891200494a"), looks := true }, kinds := [], alts := [], laidByText := true, laidKinds := [.data, .data, .data], laidTests := true, laidLooks := .later }
def DecodeOwnCardSaid : Prop := Claim7.holds Tryz.pinned (.plain (OpenSpec.ofChange decodeOwnSpec)) decodeOwnCard

/-- THE TIED CARD OF 'trufflelaw11.DecodeTwice'. -/
def decodeTwiceCard : Claim7 := { stood := { row := decodeTwiceRow, standIns := [], harness := (true, "a016a0bbb58ba0441541da106f12bcfcbc4a073d86838b1072f527891200494a"), looks := true }, kinds := [], alts := [], laidByText := true, laidKinds := [.data, .data, .data], laidTests := true, laidLooks := .later }
def DecodeTwiceCardSaid : Prop := Claim7.holds Tryz.pinned (.plain (OpenSpec.ofChange decodeTwiceSpec)) decodeTwiceCard

/-- THE TIED CARD OF 'trufflelaw11.DecodeWire'. -/
def decodeWireCard : Claim7 := { stood := { row := decodeWireRow, standIns := [], harness := (true, "a016a0bbb58ba0441541da106f12bcfcbc4a073d86838b1072f527891200494a"), looks := true }, kinds := [], alts := [], laidByText := true, laidKinds := [.data, .data, .data], laidTests := true, laidLooks := .later }
def DecodeWireCardSaid : Prop := Claim7.holds Tryz.pinned (.plain (OpenSpec.ofChange decodeWireSpec)) decodeWireCard

/-- THE TIED CARD OF 'trufflelaw12.EncodeBack'. -/
def encodeBackCard : Claim7 := { stood := { row := encodeBackRow, standIns := [], harness := (true, "a016a0bbb58ba0441541da106f12bcfcbc4a073d86838b1072f527891200494a"), looks := true }, kinds := [], alts := [], laidByText := true, laidKinds := [.data, .data, .data], laidTests := true, laidLooks := .later }
def EncodeBackCardSaid : Prop := Claim7.holds Tryz.pinned (.plain (OpenSpec.ofChange encodeBackSpec)) encodeBackCard

/-- THE TIED CARD OF 'trufflelaw12.EncodeAgain'. -/
def encodeAgainCard : Claim7 := { stood := { row := encodeAgainRow, standIns := [], harness := (true, "a016a0bbb58ba0441541da106f12bcfcbc4a073d86838b1072f527891200494a"), looks := true }, kinds := [], alts := [], laidByText := true, laidKinds := [.data, .data, .data], laidTests := true, laidLooks := .later }
def EncodeAgainCardSaid : Prop := Claim7.holds Tryz.pinned (.plain (OpenSpec.ofChange encodeAgainSpec)) encodeAgainCard

/-- THE SECOND FORM's CARD OF 'trufflelaw11.DecodeNormal'. -/
def decodeNormalUptoCard : Claim7 := { stood := { row := decodeNormalUptoRow, standIns := [], harness := (true, "a016a0bbb58ba0441541da106f12bcfcbc4a073d86838b1072f527891200494a"), looks := true }, kinds := [], alts := [], laidByText := true, laidKinds := [.data, .data, .data], laidTests := true, laidLooks := .later }
def DecodeNormalUptoCardSaid : Prop := Claim7.holds Tryz.pinned (.plain (OpenSpec.upto decodeNormalSpec)) decodeNormalUptoCard

/-- THE SECOND FORM's CARD OF 'trufflelaw11.DecodeFirst'. -/
def decodeFirstUptoCard : Claim7 := { stood := { row := decodeFirstUptoRow, standIns := [], harness := (true, "a016a0bbb58ba0441541da106f12bcfcbc4a073d86838b1072f527891200494a"), looks := true }, kinds := [], alts := [], laidByText := true, laidKinds := [.data, .data, .data], laidTests := true, laidLooks := .later }
def DecodeFirstUptoCardSaid : Prop := Claim7.holds Tryz.pinned (.plain (OpenSpec.upto decodeFirstSpec)) decodeFirstUptoCard

/-- THE SECOND FORM's CARD OF 'trufflelaw11.DecodeUnknown'. -/
def decodeUnknownUptoCard : Claim7 := { stood := { row := decodeUnknownUptoRow, standIns := [], harness := (true, "a016a0bbb58ba0441541da106f12bcfcbc4a073d86838b1072f527891200494a"), looks := true }, kinds := [], alts := [], laidByText := true, laidKinds := [.data, .data, .data], laidTests := true, laidLooks := .later }
def DecodeUnknownUptoCardSaid : Prop := Claim7.holds Tryz.pinned (.plain (OpenSpec.upto decodeUnknownSpec)) decodeUnknownUptoCard

/-- THE SECOND FORM's CARD OF 'trufflelaw11.DecodePacked'. -/
def decodePackedUptoCard : Claim7 := { stood := { row := decodePackedUptoRow, standIns := [], harness := (true, "a016a0bbb58ba0441541da106f12bcfcbc4a073d86838b1072f527891200494a"), looks := true }, kinds := [], alts := [], laidByText := true, laidKinds := [.data, .data, .data], laidTests := true, laidLooks := .later }
def DecodePackedUptoCardSaid : Prop := Claim7.holds Tryz.pinned (.plain (OpenSpec.upto decodePackedSpec)) decodePackedUptoCard

/-- THE SECOND FORM's CARD OF 'trufflelaw11.DecodeOwn'. -/
def decodeOwnUptoCard : Claim7 := { stood := { row := decodeOwnUptoRow, standIns := [], harness := (true, "a016a0bbb58ba0441541da106f12bcfcbc4a073d86838b1072f527891200494a"), looks := true }, kinds := [], alts := [], laidByText := true, laidKinds := [.data, .data, .data], laidTests := true, laidLooks := .later }
def DecodeOwnUptoCardSaid : Prop := Claim7.holds Tryz.pinned (.plain (OpenSpec.upto decodeOwnSpec)) decodeOwnUptoCard

/-- THE SECOND FORM's CARD OF 'trufflelaw11.DecodeTwice'. -/
def decodeTwiceUptoCard : Claim7 := { stood := { row := decodeTwiceUptoRow, standIns := [], harness := (true, "a016a0bbb58ba0441541da106f12bcfcbc4a073d86838b1072f527891200494a"), looks := true }, kinds := [], alts := [], laidByText := true, laidKinds := [.data, .data, .data], laidTests := true, laidLooks := .later }
def DecodeTwiceUptoCardSaid : Prop := Claim7.holds Tryz.pinned (.plain (OpenSpec.upto decodeTwiceSpec)) decodeTwiceUptoCard

/-- THE SECOND FORM's CARD OF 'trufflelaw11.DecodeWire'. -/
def decodeWireUptoCard : Claim7 := { stood := { row := decodeWireUptoRow, standIns := [], harness := (true, "a016a0bbb58ba0441541da106f12bcfcbc4a073d86838b1072f527891200494a"), looks := true }, kinds := [], alts := [], laidByText := true, laidKinds := [.data, .data, .data], laidTests := true, laidLooks := .later }
def DecodeWireUptoCardSaid : Prop := Claim7.holds Tryz.pinned (.plain (OpenSpec.upto decodeWireSpec)) decodeWireUptoCard

/-- THE SECOND FORM's CARD OF 'trufflelaw12.EncodeBack'. -/
def encodeBackUptoCard : Claim7 := { stood := { row := encodeBackUptoRow, standIns := [], harness := (true, "a016a0bbb58ba0441541da106f12bcfcbc4a073d86838b1072f527891200494a"), looks := true }, kinds := [], alts := [], laidByText := true, laidKinds := [.data, .data, .data], laidTests := true, laidLooks := .later }
def EncodeBackUptoCardSaid : Prop := Claim7.holds Tryz.pinned (.plain (OpenSpec.upto encodeBackSpec)) encodeBackUptoCard

/-- THE SECOND FORM's CARD OF 'trufflelaw12.EncodeAgain'. -/
def encodeAgainUptoCard : Claim7 := { stood := { row := encodeAgainUptoRow, standIns := [], harness := (true, "a016a0bbb58ba0441541da106f12bcfcbc4a073d86838b1072f527891200494a"), looks := true }, kinds := [], alts := [], laidByText := true, laidKinds := [.data, .data, .data], laidTests := true, laidLooks := .later }
def EncodeAgainUptoCardSaid : Prop := Claim7.holds Tryz.pinned (.plain (OpenSpec.upto encodeAgainSpec)) encodeAgainUptoCard
end Rows
end Go.Proofs.YtckcojkpghiclaaGreatDoor
