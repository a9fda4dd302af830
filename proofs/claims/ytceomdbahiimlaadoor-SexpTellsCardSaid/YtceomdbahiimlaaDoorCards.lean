/-
  DERIVED. GIVEN WITH THE SEED: THE CARDS: each row of YtceomdbahiimlaaDoorRows.lean that lists a variable, with what it lists TIED to the program's text (the seventh form; the later family's looks); each row that meets fmt, with fmt's text TOLD by the authors' own Lean function (tested against real Go, not proved from fmt's source: count such statements apart). THE CARD IS WHAT COUNTS. Prove the row's statement (the work); the ties are given (YtceomdbahiimlaaDoorTie.lean); close each card by the builder's one call (the guide's Derived/Test/ToyasCard.lean, 'card_holds'). Laid BY PROGRAM, IN A SANDBOX (cutbox-door.mjs). By AI agents, Wed Nov 11 2026. No macro, syntax, notation, axiom, sorry.
-/
import Derived.Test.YtceomdbahiimlaaDoorRows
import GoSem.ClaimSeven
namespace Go.Proofs.YtceomdbahiimlaaDoor
namespace Rows

/-- THE TIED CARD OF 'trufflelaw14.SexpTells'. -/
def sexpTellsCard : Claim7 := { stood := { row := sexpTellsRow, standIns := [], harness := (true, "4f13c4e89ec2c6dffb2529fe0c3677f8ee68a812a0dc957a93f30dfb11a4612d"), looks := true }, kinds := [], alts := [], laidByText := true, laidKinds := [.data, .data, .data, .sentinel, .sentinel], laidTests := true, laidLooks := .later }
def SexpTellsCardSaid : Prop := Claim7.holds Tryd.pinned (.plain (OpenSpec.ofChange sexpTellsSpec)) sexpTellsCard

/-- THE TIED CARD OF 'trufflelaw14.SexpBack'. -/
def sexpBackCard : Claim7 := { stood := { row := sexpBackRow, standIns := [], harness := (true, "4f13c4e89ec2c6dffb2529fe0c3677f8ee68a812a0dc957a93f30dfb11a4612d"), looks := true }, kinds := [], alts := [], laidByText := true, laidKinds := [.data, .data, .data, .sentinel, .sentinel], laidTests := true, laidLooks := .later }
def SexpBackCardSaid : Prop := Claim7.holds Tryd.pinned (.plain (OpenSpec.ofChange sexpBackSpec)) sexpBackCard

/-- THE TIED CARD OF 'trufflelaw14.SexpMay'. -/
def sexpMayCard : Claim7 := { stood := { row := sexpMayRow, standIns := [], harness := (true, "4f13c4e89ec2c6dffb2529fe0c3677f8ee68a812a0dc957a93f30dfb11a4612d"), looks := true }, kinds := [], alts := [], laidByText := true, laidKinds := [.data, .data, .data, .sentinel, .sentinel], laidTests := true, laidLooks := .later }
def SexpMayCardSaid : Prop := Claim7.holds Tryd.pinned (.plain (OpenSpec.ofChange sexpMaySpec)) sexpMayCard

/-- THE TIED CARD OF 'trufflelaw14.SexpNest'. -/
def sexpNestCard : Claim7 := { stood := { row := sexpNestRow, standIns := [], harness := (true, "4f13c4e89ec2c6dffb2529fe0c3677f8ee68a812a0dc957a93f30dfb11a4612d"), looks := true }, kinds := [], alts := [], laidByText := true, laidKinds := [.data, .data, .data, .sentinel, .sentinel], laidTests := true, laidLooks := .later }
def SexpNestCardSaid : Prop := Claim7.holds Tryd.pinned (.plain (OpenSpec.ofChange sexpNestSpec)) sexpNestCard

/-- THE TIED CARD OF 'trufflelaw14.SexpList'. -/
def sexpListCard : Claim7 := { stood := { row := sexpListRow, standIns := [], harness := (true, "4f13c4e89ec2c6dffb2529fe0c3677f8ee68a812a0dc957a93f30dfb11a4612d"), looks := true }, kinds := [], alts := [], laidByText := true, laidKinds := [.data, .data, .data, .sentinel, .sentinel], laidTests := true, laidLooks := .later }
def SexpListCardSaid : Prop := Claim7.holds Tryd.pinned (.plain (OpenSpec.ofChange sexpListSpec)) sexpListCard

/-- THE TIED CARD OF 'trufflelaw14.SexpStr'. -/
def sexpStrCard : Claim7 := { stood := { row := sexpStrRow, standIns := [], harness := (true, "4f13c4e89ec2c6dffb2529fe0c3677f8ee68a812a0dc957a93f30dfb11a4612d"), looks := true }, kinds := [], alts := [], laidByText := true, laidKinds := [.data, .data, .data, .sentinel, .sentinel], laidTests := true, laidLooks := .later }
def SexpStrCardSaid : Prop := Claim7.holds Tryd.pinned (.plain (OpenSpec.ofChange sexpStrSpec)) sexpStrCard

/-- THE SECOND FORM's CARD OF 'trufflelaw14.SexpTells'. -/
def sexpTellsUptoCard : Claim7 := { stood := { row := sexpTellsUptoRow, standIns := [], harness := (true, "4f13c4e89ec2c6dffb2529fe0c3677f8ee68a812a0dc957a93f30dfb11a4612d"), looks := true }, kinds := [], alts := [], laidByText := true, laidKinds := [.data, .data, .data, .sentinel, .sentinel], laidTests := true, laidLooks := .later }
def SexpTellsUptoCardSaid : Prop := Claim7.holds Tryd.pinned (.plain (OpenSpec.upto sexpTellsSpec)) sexpTellsUptoCard

/-- THE SECOND FORM's CARD OF 'trufflelaw14.SexpBack'. -/
def sexpBackUptoCard : Claim7 := { stood := { row := sexpBackUptoRow, standIns := [], harness := (true, "4f13c4e89ec2c6dffb2529fe0c3677f8ee68a812a0dc957a93f30dfb11a4612d"), looks := true }, kinds := [], alts := [], laidByText := true, laidKinds := [.data, .data, .data, .sentinel, .sentinel], laidTests := true, laidLooks := .later }
def SexpBackUptoCardSaid : Prop := Claim7.holds Tryd.pinned (.plain (OpenSpec.upto sexpBackSpec)) sexpBackUptoCard

/-- THE SECOND FORM's CARD OF 'trufflelaw14.SexpMay'. -/
def sexpMayUptoCard : Claim7 := { stood := { row := sexpMayUptoRow, standIns := [], harness := (true, "4f13c4e89ec2c6dffb2529fe0c3677f8ee68a812a0dc957a93f30dfb11a4612d"), looks := true }, kinds := [], alts := [], laidByText := true, laidKinds := [.data, .data, .data, .sentinel, .sentinel], laidTests := true, laidLooks := .later }
def SexpMayUptoCardSaid : Prop := Claim7.holds Tryd.pinned (.plain (OpenSpec.upto sexpMaySpec)) sexpMayUptoCard

/-- THE SECOND FORM's CARD OF 'trufflelaw14.SexpNest'. -/
def sexpNestUptoCard : Claim7 := { stood := { row := sexpNestUptoRow, standIns := [], harness := (true, "4f13c4e89ec2c6dffb2529fe0c3677f8ee68a812a0dc957a93f30dfb11a4612d"), looks := true }, kinds := [], alts := [], laidByText := true, laidKinds := [.data, .data, .data, .sentinel, .sentinel], laidTests := true, laidLooks := .later }
def SexpNestUptoCardSaid : Prop := Claim7.holds Tryd.pinned (.plain (OpenSpec.upto sexpNestSpec)) sexpNestUptoCard

/-- THE SECOND FORM's CARD OF 'trufflelaw14.SexpList'. -/
def sexpListUptoCard : Claim7 := { stood := { row := sexpListUptoRow, standIns := [], harness := (true, "4f13c4e89ec2c6dffb2529fe0c3677f8ee68a812a0dc957a93f30dfb11a4612d"), looks := true }, kinds := [], alts := [], laidByText := true, laidKinds := [.data, .data, .data, .sentinel, .sentinel], laidTests := true, laidLooks := .later }
def SexpListUptoCardSaid : Prop := Claim7.holds Tryd.pinned (.plain (OpenSpec.upto sexpListSpec)) sexpListUptoCard

/-- THE SECOND FORM's CARD OF 'trufflelaw14.SexpStr'. -/
def sexpStrUptoCard : Claim7 := { stood := { row := sexpStrUptoRow, standIns := [], harness := (true, "4f13c4e89ec2c6dffb2529fe0c3677f8ee68a812a0dc957a93f30dfb11a4612d"), looks := true }, kinds := [], alts := [], laidByText := true, laidKinds := [.data, .data, .data, .sentinel, .sentinel], laidTests := true, laidLooks := .later }
def SexpStrUptoCardSaid : Prop := Claim7.holds Tryd.pinned (.plain (OpenSpec.upto sexpStrSpec)) sexpStrUptoCard
end Rows
end Go.Proofs.YtceomdbahiimlaaDoor
