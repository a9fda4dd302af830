/-
  DERIVED. GIVEN WITH THE SEED: THE CARDS: each row of YtipaangiehdgkaaGreatDoorRows.lean that lists a variable, with what it lists TIED to the program's text (the seventh form; the later family's looks); each row that meets fmt, with fmt's text TOLD by the authors' own Lean function (tested against real Go, not proved from fmt's source: count such statements apart). THE CARD IS WHAT COUNTS. Prove the row's statement (the work); the ties are given (YtipaangiehdgkaaGreatDoorTie.lean); close each card by the builder's one call (the guide's Derived/Test/ToyasCard.lean, 'card_holds'). Laid BY PROGRAM, IN A SANDBOX (cutbox-door.mjs). By AI agents, Wed Nov 11 2026. No macro, syntax, notation, axiom, sorry.
-/
import Derived.Test.YtipaangiehdgkaaGreatDoorRows
import GoSem.ClaimSeven
namespace Go.Proofs.YtipaangiehdgkaaGreatDoor
namespace Rows

/-- THE TIED CARD OF 'trufflelaw11.DecodeNumbers'. -/
def decodeNumbersCard : Claim7 := { stood := { row := decodeNumbersRow, standIns := [], harness := (true, "1f5c71892e4a2f7d099156f56a18f53d49e4434a3087025a915d634d24a5679d"), looks := true }, kinds := [], alts := [], laidByText := true, laidKinds := [.data, .data, .data], laidTests := true, laidLooks := .later }
def DecodeNumbersCardSaid : Prop := Claim7.holds Tryz.pinned (.plain (OpenSpec.ofChange decodeNumbersSpec)) decodeNumbersCard

/-- THE TIED CARD OF 'trufflelaw12.EncodeSame'. -/
def encodeSameCard : Claim7 := { stood := { row := encodeSameRow, standIns := [], harness := (true, "1f5c71892e4a2f7d099156f56a18f53d49e4434a3087025a915d634d24a5679d"), looks := true }, kinds := [], alts := [], laidByText := true, laidKinds := [.data, .data, .data], laidTests := true, laidLooks := .later }
def EncodeSameCardSaid : Prop := Claim7.holds Tryz.pinned (.plain (OpenSpec.ofChange encodeSameSpec)) encodeSameCard

/-- THE TIED CARD OF 'trufflelaw12.EncodeParts'. -/
def encodePartsCard : Claim7 := { stood := { row := encodePartsRow, standIns := [], harness := (true, "1f5c71892e4a2f7d099156f56a18f53d49e4434a3087025a915d634d24a5679d"), looks := true }, kinds := [], alts := [], laidByText := true, laidKinds := [.data, .data, .data], laidTests := true, laidLooks := .later }
def EncodePartsCardSaid : Prop := Claim7.holds Tryz.pinned (.plain (OpenSpec.ofChange encodePartsSpec)) encodePartsCard

/-- THE TIED CARD OF 'trufflelaw12.EncodeValue'. -/
def encodeValueCard : Claim7 := { stood := { row := encodeValueRow, standIns := [], harness := (true, "1f5c71892e4a2f7d099156f56a18f53d49e4434a3087025a915d634d24a5679d"), looks := true }, kinds := [], alts := [], laidByText := true, laidKinds := [.data, .data, .data], laidTests := true, laidLooks := .later }
def EncodeValueCardSaid : Prop := Claim7.holds Tryz.pinned (.plain (OpenSpec.ofChange encodeValueSpec)) encodeValueCard

/-- THE SECOND FORM's CARD OF 'trufflelaw11.DecodeNumbers'. -/
def decodeNumbersUptoCard : Claim7 := { stood := { row := decodeNumbersUptoRow, standIns := [], harness := (true, "1f5c71892e4a2f7d099156f56a18f53d49e4434a3087025a915d634d24a5679d"), looks := true }, kinds := [], alts := [], laidByText := true, laidKinds := [.data, .data, .data], laidTests := true, laidLooks := .later }
def DecodeNumbersUptoCardSaid : Prop := Claim7.holds Tryz.pinned (.plain (OpenSpec.upto decodeNumbersSpec)) decodeNumbersUptoCard

/-- THE SECOND FORM's CARD OF 'trufflelaw12.EncodeSame'. -/
def encodeSameUptoCard : Claim7 := { stood := { row := encodeSameUptoRow, standIns := [], harness := (true, "1f5c71892e4a2f7d099156f56a18f53d49e4434a3087025a915d634d24a5679d"), looks := true }, kinds := [], alts := [], laidByText := true, laidKinds := [.data, .data, .data], laidTests := true, laidLooks := .later }
def EncodeSameUptoCardSaid : Prop := Claim7.holds Tryz.pinned (.plain (OpenSpec.upto encodeSameSpec)) encodeSameUptoCard

/-- THE SECOND FORM's CARD OF 'trufflelaw12.EncodeParts'. -/
def encodePartsUptoCard : Claim7 := { stood := { row := encodePartsUptoRow, standIns := [], harness := (true, "1f5c71892e4a2f7d099156f56a18f53d49e4434a3087025a915d634d24a5679d"), looks := true }, kinds := [], alts := [], laidByText := true, laidKinds := [.data, .data, .data], laidTests := true, laidLooks := .later }
def EncodePartsUptoCardSaid : Prop := Claim7.holds Tryz.pinned (.plain (OpenSpec.upto encodePartsSpec)) encodePartsUptoCard

/-- THE SECOND FORM's CARD OF 'trufflelaw12.EncodeValue'. -/
def encodeValueUptoCard : Claim7 := { stood := { row := encodeValueUptoRow, standIns := [], harness := (true, "1f5c71892e4a2f7d099156f56a18f53d49e4434a3087025a915d634d24a5679d"), looks := true }, kinds := [], alts := [], laidByText := true, laidKinds := [.data, .data, .data], laidTests := true, laidLooks := .later }
def EncodeValueUptoCardSaid : Prop := Claim7.holds Tryz.pinned (.plain (OpenSpec.upto encodeValueSpec)) encodeValueUptoCard
end Rows
end Go.Proofs.YtipaangiehdgkaaGreatDoor
