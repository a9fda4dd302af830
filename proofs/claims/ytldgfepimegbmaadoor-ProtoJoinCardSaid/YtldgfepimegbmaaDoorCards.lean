/-
  DERIVED. GIVEN WITH THE SEED: THE CARDS: each row of YtldgfepimegbmaaDoorRows.lean that lists a variable, with what it lists TIED to the program's text (the seventh form; the later family's looks); each row that meets fmt, with fmt's text TOLD by the authors' own Lean function (tested against real Go, not proved from fmt's source: count such statements apart). THE CARD IS WHAT COUNTS. Prove the row's statement (the work); the ties are given (YtldgfepimegbmaaDoorTie.lean); close each card by the builder's one call (the guide's Derived/Test/ToyasCard.lean, 'card_holds'). Laid BY PROGRAM, IN A SANDBOX (cutbox-door.mjs). By AI agents, Wed Nov 11 2026. No macro, syntax, notation, axiom, sorry.
-/
import Derived.Test.YtldgfepimegbmaaDoorRows
import GoSem.ClaimSeven
namespace Go.Proofs.YtldgfepimegbmaaDoor
namespace Rows

/-- THE TIED CARD OF 'trufflelaw07.ProtoBack'. -/
def protoBackCard : Claim7 := { stood := { row := protoBackRow, standIns := [], harness := (true, "ba2a514cfaa0a8bb31db71281281800fdc63c18e984cb61d9cd5e12777635794"), looks := true }, kinds := [], alts := [], laidByText := true, laidKinds := [.data, .data, .data, .sentinel, .sentinel], laidTests := true, laidLooks := .later }
def ProtoBackCardSaid : Prop := Claim7.holds Tryd.pinned (.plain (OpenSpec.ofChange protoBackSpec)) protoBackCard

/-- THE TIED CARD OF 'trufflelaw07.ProtoBlanks'. -/
def protoBlanksCard : Claim7 := { stood := { row := protoBlanksRow, standIns := [], harness := (true, "ba2a514cfaa0a8bb31db71281281800fdc63c18e984cb61d9cd5e12777635794"), looks := true }, kinds := [], alts := [], laidByText := true, laidKinds := [.data, .data, .data, .sentinel, .sentinel], laidTests := true, laidLooks := .later }
def ProtoBlanksCardSaid : Prop := Claim7.holds Tryd.pinned (.plain (OpenSpec.ofChange protoBlanksSpec)) protoBlanksCard

/-- THE TIED CARD OF 'trufflelaw07.ProtoPlace'. -/
def protoPlaceCard : Claim7 := { stood := { row := protoPlaceRow, standIns := [], harness := (true, "ba2a514cfaa0a8bb31db71281281800fdc63c18e984cb61d9cd5e12777635794"), looks := true }, kinds := [], alts := [], laidByText := true, laidKinds := [.data, .data, .data, .sentinel, .sentinel], laidTests := true, laidLooks := .later }
def ProtoPlaceCardSaid : Prop := Claim7.holds Tryd.pinned (.plain (OpenSpec.ofChange protoPlaceSpec)) protoPlaceCard

/-- THE TIED CARD OF 'trufflelaw07.ProtoJoin'. -/
def protoJoinCard : Claim7 := { stood := { row := protoJoinRow, standIns := [], harness := (true, "ba2a514cfaa0a8bb31db71281281800fdc63c18e984cb61d9cd5e12777635794"), looks := true }, kinds := [], alts := [], laidByText := true, laidKinds := [.data, .data, .data, .sentinel, .sentinel], laidTests := true, laidLooks := .later }
def ProtoJoinCardSaid : Prop := Claim7.holds Tryd.pinned (.plain (OpenSpec.ofChange protoJoinSpec)) protoJoinCard

/-- THE SECOND FORM's CARD OF 'trufflelaw07.ProtoBack'. -/
def protoBackUptoCard : Claim7 := { stood := { row := protoBackUptoRow, standIns := [], harness := (true, "ba2a514cfaa0a8bb31db71281281800fdc63c18e984cb61d9cd5e12777635794"), looks := true }, kinds := [], alts := [], laidByText := true, laidKinds := [.data, .data, .data, .sentinel, .sentinel], laidTests := true, laidLooks := .later }
def ProtoBackUptoCardSaid : Prop := Claim7.holds Tryd.pinned (.plain (OpenSpec.upto protoBackSpec)) protoBackUptoCard

/-- THE SECOND FORM's CARD OF 'trufflelaw07.ProtoBlanks'. -/
def protoBlanksUptoCard : Claim7 := { stood := { row := protoBlanksUptoRow, standIns := [], harness := (true, "ba2a514cfaa0a8bb31db71281281800fdc63c18e984cb61d9cd5e12777635794"), looks := true }, kinds := [], alts := [], laidByText := true, laidKinds := [.data, .data, .data, .sentinel, .sentinel], laidTests := true, laidLooks := .later }
def ProtoBlanksUptoCardSaid : Prop := Claim7.holds Tryd.pinned (.plain (OpenSpec.upto protoBlanksSpec)) protoBlanksUptoCard

/-- THE SECOND FORM's CARD OF 'trufflelaw07.ProtoPlace'. -/
def protoPlaceUptoCard : Claim7 := { stood := { row := protoPlaceUptoRow, standIns := [], harness := (true, "ba2a514cfaa0a8bb31db71281281800fdc63c18e984cb61d9cd5e12777635794"), looks := true }, kinds := [], alts := [], laidByText := true, laidKinds := [.data, .data, .data, .sentinel, .sentinel], laidTests := true, laidLooks := .later }
def ProtoPlaceUptoCardSaid : Prop := Claim7.holds Tryd.pinned (.plain (OpenSpec.upto protoPlaceSpec)) protoPlaceUptoCard

/-- THE SECOND FORM's CARD OF 'trufflelaw07.ProtoJoin'. -/
def protoJoinUptoCard : Claim7 := { stood := { row := protoJoinUptoRow, standIns := [], harness := (true, "ba2a514cfaa0a8bb31db71281281800fdc63c18e984cb61d9cd5e12777635794"), looks := true }, kinds := [], alts := [], laidByText := true, laidKinds := [.data, .data, .data, .sentinel, .sentinel], laidTests := true, laidLooks := .later }
def ProtoJoinUptoCardSaid : Prop := Claim7.holds Tryd.pinned (.plain (OpenSpec.upto protoJoinSpec)) protoJoinUptoCard
end Rows
end Go.Proofs.YtldgfepimegbmaaDoor
