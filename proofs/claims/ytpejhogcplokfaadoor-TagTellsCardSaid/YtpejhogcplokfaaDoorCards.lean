/-
  DERIVED. GIVEN WITH THE SEED: THE CARDS: each row of YtpejhogcplokfaaDoorRows.lean that lists a variable, with what it lists TIED to the program's text (the seventh form; the later family's looks); each row that meets fmt, with fmt's text TOLD by the authors' own Lean function (tested against real Go, not proved from fmt's source: count such statements apart). THE CARD IS WHAT COUNTS. Prove the row's statement (the work); the ties are given (YtpejhogcplokfaaDoorTie.lean); close each card by the builder's one call (the guide's Derived/Test/ToyasCard.lean, 'card_holds'). Laid BY PROGRAM, IN A SANDBOX (cutbox-door.mjs). By AI agents, Wed Nov 11 2026. No macro, syntax, notation, axiom, sorry.
-/
import Derived.Test.YtpejhogcplokfaaDoorRows
import GoSem.ClaimSeven
namespace Go.Proofs.YtpejhogcplokfaaDoor
namespace Rows

/-- THE TIED CARD OF 'trufflelaw03.TagTells'. -/
def tagTellsCard : Claim7 := { stood := { row := tagTellsRow, standIns := [], harness := (true, "0145b4b6ca40cadb89b5f49b1ec5e18ef10a9f5db63136804090e2043f382f45"), looks := false }, kinds := [], alts := [], laidByText := true, laidKinds := [.data], laidTests := true, laidLooks := .later }
def TagTellsCardSaid : Prop := Claim7.holds Tryd.pinned (.plain (OpenSpec.ofChange tagTellsSpec)) tagTellsCard

/-- THE TIED CARD OF 'trufflelaw03.TagBack'. -/
def tagBackCard : Claim7 := { stood := { row := tagBackRow, standIns := [], harness := (true, "0145b4b6ca40cadb89b5f49b1ec5e18ef10a9f5db63136804090e2043f382f45"), looks := false }, kinds := [], alts := [], laidByText := true, laidKinds := [.data], laidTests := true, laidLooks := .later }
def TagBackCardSaid : Prop := Claim7.holds Tryd.pinned (.plain (OpenSpec.ofChange tagBackSpec)) tagBackCard

/-- THE TIED CARD OF 'trufflelaw03.TagWrong'. -/
def tagWrongCard : Claim7 := { stood := { row := tagWrongRow, standIns := [], harness := (true, "0145b4b6ca40cadb89b5f49b1ec5e18ef10a9f5db63136804090e2043f382f45"), looks := false }, kinds := [], alts := [], laidByText := true, laidKinds := [.data], laidTests := true, laidLooks := .later }
def TagWrongCardSaid : Prop := Claim7.holds Tryd.pinned (.plain (OpenSpec.ofChange tagWrongSpec)) tagWrongCard

/-- THE TIED CARD OF 'trufflelaw03.TagOne'. -/
def tagOneCard : Claim7 := { stood := { row := tagOneRow, standIns := [], harness := (true, "0145b4b6ca40cadb89b5f49b1ec5e18ef10a9f5db63136804090e2043f382f45"), looks := false }, kinds := [], alts := [], laidByText := true, laidKinds := [.data], laidTests := true, laidLooks := .later }
def TagOneCardSaid : Prop := Claim7.holds Tryd.pinned (.plain (OpenSpec.ofChange tagOneSpec)) tagOneCard

/-- THE TIED CARD OF 'trufflelaw03.TagCut'. -/
def tagCutCard : Claim7 := { stood := { row := tagCutRow, standIns := [], harness := (true, "0145b4b6ca40cadb89b5f49b1ec5e18ef10a9f5db63136804090e2043f382f45"), looks := false }, kinds := [], alts := [], laidByText := true, laidKinds := [.data], laidTests := true, laidLooks := .later }
def TagCutCardSaid : Prop := Claim7.holds Tryd.pinned (.plain (OpenSpec.ofChange tagCutSpec)) tagCutCard

/-- THE SECOND FORM's CARD OF 'trufflelaw03.TagTells'. -/
def tagTellsUptoCard : Claim7 := { stood := { row := tagTellsUptoRow, standIns := [], harness := (true, "0145b4b6ca40cadb89b5f49b1ec5e18ef10a9f5db63136804090e2043f382f45"), looks := false }, kinds := [], alts := [], laidByText := true, laidKinds := [.data], laidTests := true, laidLooks := .later }
def TagTellsUptoCardSaid : Prop := Claim7.holds Tryd.pinned (.plain (OpenSpec.upto tagTellsSpec)) tagTellsUptoCard

/-- THE SECOND FORM's CARD OF 'trufflelaw03.TagBack'. -/
def tagBackUptoCard : Claim7 := { stood := { row := tagBackUptoRow, standIns := [], harness := (true, "0145b4b6ca40cadb89b5f49b1ec5e18ef10a9f5db63136804090e2043f382f45"), looks := false }, kinds := [], alts := [], laidByText := true, laidKinds := [.data], laidTests := true, laidLooks := .later }
def TagBackUptoCardSaid : Prop := Claim7.holds Tryd.pinned (.plain (OpenSpec.upto tagBackSpec)) tagBackUptoCard

/-- THE SECOND FORM's CARD OF 'trufflelaw03.TagWrong'. -/
def tagWrongUptoCard : Claim7 := { stood := { row := tagWrongUptoRow, standIns := [], harness := (true, "0145b4b6ca40cadb89b5f49b1ec5e18ef10a9f5db63136804090e2043f382f45"), looks := false }, kinds := [], alts := [], laidByText := true, laidKinds := [.data], laidTests := true, laidLooks := .later }
def TagWrongUptoCardSaid : Prop := Claim7.holds Tryd.pinned (.plain (OpenSpec.upto tagWrongSpec)) tagWrongUptoCard

/-- THE SECOND FORM's CARD OF 'trufflelaw03.TagOne'. -/
def tagOneUptoCard : Claim7 := { stood := { row := tagOneUptoRow, standIns := [], harness := (true, "0145b4b6ca40cadb89b5f49b1ec5e18ef10a9f5db63136804090e2043f382f45"), looks := false }, kinds := [], alts := [], laidByText := true, laidKinds := [.data], laidTests := true, laidLooks := .later }
def TagOneUptoCardSaid : Prop := Claim7.holds Tryd.pinned (.plain (OpenSpec.upto tagOneSpec)) tagOneUptoCard

/-- THE SECOND FORM's CARD OF 'trufflelaw03.TagCut'. -/
def tagCutUptoCard : Claim7 := { stood := { row := tagCutUptoRow, standIns := [], harness := (true, "0145b4b6ca40cadb89b5f49b1ec5e18ef10a9f5db63136804090e2043f382f45"), looks := false }, kinds := [], alts := [], laidByText := true, laidKinds := [.data], laidTests := true, laidLooks := .later }
def TagCutUptoCardSaid : Prop := Claim7.holds Tryd.pinned (.plain (OpenSpec.upto tagCutSpec)) tagCutUptoCard
end Rows
end Go.Proofs.YtpejhogcplokfaaDoor
