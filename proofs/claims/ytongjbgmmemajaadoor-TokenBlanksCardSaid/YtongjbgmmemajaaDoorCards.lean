/-
  DERIVED. GIVEN WITH THE SEED: THE CARDS: each row of YtongjbgmmemajaaDoorRows.lean that lists a variable, with what it lists TIED to the program's text (the seventh form; the later family's looks); each row that meets fmt, with fmt's text TOLD by the authors' own Lean function (tested against real Go, not proved from fmt's source: count such statements apart). THE CARD IS WHAT COUNTS. Prove the row's statement (the work); the ties are given (YtongjbgmmemajaaDoorTie.lean); close each card by the builder's one call (the guide's Derived/Test/ToyasCard.lean, 'card_holds'). Laid BY PROGRAM, IN A SANDBOX (cutbox-door.mjs). By AI agents, Wed Nov 11 2026. No macro, syntax, notation, axiom, sorry.
-/
import Derived.Test.YtongjbgmmemajaaDoorRows
import GoSem.ClaimSeven
namespace Go.Proofs.YtongjbgmmemajaaDoor
namespace Rows

/-- THE TIED CARD OF 'trufflelaw06.TokenTells'. -/
def tokenTellsCard : Claim7 := { stood := { row := tokenTellsRow, standIns := [], harness := (true, "03660cf1ec1c62de4f99e0ce8a9f3795d4d45693bc3cc05ba6574a9f63d722cd"), looks := true }, kinds := [], alts := [], laidByText := true, laidKinds := [.data, .data, .data, .sentinel, .sentinel], laidTests := true, laidLooks := .later }
def TokenTellsCardSaid : Prop := Claim7.holds Tryd.pinned (.plain (OpenSpec.ofChange tokenTellsSpec)) tokenTellsCard

/-- THE TIED CARD OF 'trufflelaw06.TokenBack'. -/
def tokenBackCard : Claim7 := { stood := { row := tokenBackRow, standIns := [], harness := (true, "03660cf1ec1c62de4f99e0ce8a9f3795d4d45693bc3cc05ba6574a9f63d722cd"), looks := true }, kinds := [], alts := [], laidByText := true, laidKinds := [.data, .data, .data, .sentinel, .sentinel], laidTests := true, laidLooks := .later }
def TokenBackCardSaid : Prop := Claim7.holds Tryd.pinned (.plain (OpenSpec.ofChange tokenBackSpec)) tokenBackCard

/-- THE TIED CARD OF 'trufflelaw06.TokenBlanks'. -/
def tokenBlanksCard : Claim7 := { stood := { row := tokenBlanksRow, standIns := [], harness := (true, "03660cf1ec1c62de4f99e0ce8a9f3795d4d45693bc3cc05ba6574a9f63d722cd"), looks := true }, kinds := [], alts := [], laidByText := true, laidKinds := [.data, .data, .data, .sentinel, .sentinel], laidTests := true, laidLooks := .later }
def TokenBlanksCardSaid : Prop := Claim7.holds Tryd.pinned (.plain (OpenSpec.ofChange tokenBlanksSpec)) tokenBlanksCard

/-- THE TIED CARD OF 'trufflelaw06.TokenPlaces'. -/
def tokenPlacesCard : Claim7 := { stood := { row := tokenPlacesRow, standIns := [], harness := (true, "03660cf1ec1c62de4f99e0ce8a9f3795d4d45693bc3cc05ba6574a9f63d722cd"), looks := true }, kinds := [], alts := [], laidByText := true, laidKinds := [.data, .data, .data, .sentinel, .sentinel], laidTests := true, laidLooks := .later }
def TokenPlacesCardSaid : Prop := Claim7.holds Tryd.pinned (.plain (OpenSpec.ofChange tokenPlacesSpec)) tokenPlacesCard

/-- THE TIED CARD OF 'trufflelaw06.TokenJoin'. -/
def tokenJoinCard : Claim7 := { stood := { row := tokenJoinRow, standIns := [], harness := (true, "03660cf1ec1c62de4f99e0ce8a9f3795d4d45693bc3cc05ba6574a9f63d722cd"), looks := true }, kinds := [], alts := [], laidByText := true, laidKinds := [.data, .data, .data, .sentinel, .sentinel], laidTests := true, laidLooks := .later }
def TokenJoinCardSaid : Prop := Claim7.holds Tryd.pinned (.plain (OpenSpec.ofChange tokenJoinSpec)) tokenJoinCard

/-- THE TIED CARD OF 'trufflelaw06.TokenQuote'. -/
def tokenQuoteCard : Claim7 := { stood := { row := tokenQuoteRow, standIns := [], harness := (true, "03660cf1ec1c62de4f99e0ce8a9f3795d4d45693bc3cc05ba6574a9f63d722cd"), looks := true }, kinds := [], alts := [], laidByText := true, laidKinds := [.data, .data, .data, .sentinel, .sentinel], laidTests := true, laidLooks := .later }
def TokenQuoteCardSaid : Prop := Claim7.holds Tryd.pinned (.plain (OpenSpec.ofChange tokenQuoteSpec)) tokenQuoteCard

/-- THE SECOND FORM's CARD OF 'trufflelaw06.TokenTells'. -/
def tokenTellsUptoCard : Claim7 := { stood := { row := tokenTellsUptoRow, standIns := [], harness := (true, "03660cf1ec1c62de4f99e0ce8a9f3795d4d45693bc3cc05ba6574a9f63d722cd"), looks := true }, kinds := [], alts := [], laidByText := true, laidKinds := [.data, .data, .data, .sentinel, .sentinel], laidTests := true, laidLooks := .later }
def TokenTellsUptoCardSaid : Prop := Claim7.holds Tryd.pinned (.plain (OpenSpec.upto tokenTellsSpec)) tokenTellsUptoCard

/-- THE SECOND FORM's CARD OF 'trufflelaw06.TokenBack'. -/
def tokenBackUptoCard : Claim7 := { stood := { row := tokenBackUptoRow, standIns := [], harness := (true, "03660cf1ec1c62de4f99e0ce8a9f3795d4d45693bc3cc05ba6574a9f63d722cd"), looks := true }, kinds := [], alts := [], laidByText := true, laidKinds := [.data, .data, .data, .sentinel, .sentinel], laidTests := true, laidLooks := .later }
def TokenBackUptoCardSaid : Prop := Claim7.holds Tryd.pinned (.plain (OpenSpec.upto tokenBackSpec)) tokenBackUptoCard

/-- THE SECOND FORM's CARD OF 'trufflelaw06.TokenBlanks'. -/
def tokenBlanksUptoCard : Claim7 := { stood := { row := tokenBlanksUptoRow, standIns := [], harness := (true, "03660cf1ec1c62de4f99e0ce8a9f3795d4d45693bc3cc05ba6574a9f63d722cd"), looks := true }, kinds := [], alts := [], laidByText := true, laidKinds := [.data, .data, .data, .sentinel, .sentinel], laidTests := true, laidLooks := .later }
def TokenBlanksUptoCardSaid : Prop := Claim7.holds Tryd.pinned (.plain (OpenSpec.upto tokenBlanksSpec)) tokenBlanksUptoCard

/-- THE SECOND FORM's CARD OF 'trufflelaw06.TokenPlaces'. -/
def tokenPlacesUptoCard : Claim7 := { stood := { row := tokenPlacesUptoRow, standIns := [], harness := (true, "03660cf1ec1c62de4f99e0ce8a9f3795d4d45693bc3cc05ba6574a9f63d722cd"), looks := true }, kinds := [], alts := [], laidByText := true, laidKinds := [.data, .data, .data, .sentinel, .sentinel], laidTests := true, laidLooks := .later }
def TokenPlacesUptoCardSaid : Prop := Claim7.holds Tryd.pinned (.plain (OpenSpec.upto tokenPlacesSpec)) tokenPlacesUptoCard

/-- THE SECOND FORM's CARD OF 'trufflelaw06.TokenJoin'. -/
def tokenJoinUptoCard : Claim7 := { stood := { row := tokenJoinUptoRow, standIns := [], harness := (true, "03660cf1ec1c62de4f99e0ce8a9f3795d4d45693bc3cc05ba6574a9f63d722cd"), looks := true }, kinds := [], alts := [], laidByText := true, laidKinds := [.data, .data, .data, .sentinel, .sentinel], laidTests := true, laidLooks := .later }
def TokenJoinUptoCardSaid : Prop := Claim7.holds Tryd.pinned (.plain (OpenSpec.upto tokenJoinSpec)) tokenJoinUptoCard

/-- THE SECOND FORM's CARD OF 'trufflelaw06.TokenQuote'. -/
def tokenQuoteUptoCard : Claim7 := { stood := { row := tokenQuoteUptoRow, standIns := [], harness := (true, "03660cf1ec1c62de4f99e0ce8a9f3795d4d45693bc3cc05ba6574a9f63d722cd"), looks := true }, kinds := [], alts := [], laidByText := true, laidKinds := [.data, .data, .data, .sentinel, .sentinel], laidTests := true, laidLooks := .later }
def TokenQuoteUptoCardSaid : Prop := Claim7.holds Tryd.pinned (.plain (OpenSpec.upto tokenQuoteSpec)) tokenQuoteUptoCard
end Rows
end Go.Proofs.YtongjbgmmemajaaDoor
