/-
  DERIVED. GIVEN WITH THE SEED: THE CARDS: each row of YtcnijmmpkahoaaaDoorRows.lean that lists a variable, with what it lists TIED to the program's text (the seventh form; the later family's looks); each row that meets fmt, with fmt's text TOLD by the authors' own Lean function (tested against real Go, not proved from fmt's source: count such statements apart). THE CARD IS WHAT COUNTS. Prove the row's statement (the work); the ties are given (YtcnijmmpkahoaaaDoorTie.lean); close each card by the builder's one call (the guide's Derived/Test/ToyasCard.lean, 'card_holds'). Laid BY PROGRAM, IN A SANDBOX (cutbox-door.mjs). By AI agents, Wed Nov 11 2026. No macro, syntax, notation, axiom, sorry.
-/
import Derived.Test.YtcnijmmpkahoaaaDoorRows
import GoSem.ClaimSeven
namespace Go.Proofs.YtcnijmmpkahoaaaDoor
namespace Rows

/-- THE TIED CARD OF 'decklelaw16.FunctionTells'. -/
def functionTellsCard : Claim7 := { stood := { row := functionTellsRow, standIns := [], harness := (true, "1924153a7ac6ef115712b9e4e570842a3b779409550ae002cc35a9c4b512b6a5"), looks := false }, kinds := [], alts := [], laidByText := true, laidKinds := [.data, .pinned], laidTests := true, laidLooks := .later }
def FunctionTellsCardSaid : Prop := Claim7.holds Tryd.pinned (.plain (OpenSpec.ofChange functionTellsSpec)) functionTellsCard

/-- THE TIED CARD OF 'decklelaw16.FunctionBack'. -/
def functionBackCard : Claim7 := { stood := { row := functionBackRow, standIns := [], harness := (true, "1924153a7ac6ef115712b9e4e570842a3b779409550ae002cc35a9c4b512b6a5"), looks := false }, kinds := [], alts := [], laidByText := true, laidKinds := [.data, .pinned], laidTests := true, laidLooks := .later }
def FunctionBackCardSaid : Prop := Claim7.holds Tryd.pinned (.plain (OpenSpec.ofChange functionBackSpec)) functionBackCard

/-- THE TIED CARD OF 'decklelaw16.FunctionNames'. -/
def functionNamesCard : Claim7 := { stood := { row := functionNamesRow, standIns := [], harness := (true, "1924153a7ac6ef115712b9e4e570842a3b779409550ae002cc35a9c4b512b6a5"), looks := false }, kinds := [], alts := [], laidByText := true, laidKinds := [.data, .pinned], laidTests := true, laidLooks := .later }
def FunctionNamesCardSaid : Prop := Claim7.holds Tryd.pinned (.plain (OpenSpec.ofChange functionNamesSpec)) functionNamesCard

/-- THE TIED CARD OF 'decklelaw16.FunctionMore'. -/
def functionMoreCard : Claim7 := { stood := { row := functionMoreRow, standIns := [], harness := (true, "1924153a7ac6ef115712b9e4e570842a3b779409550ae002cc35a9c4b512b6a5"), looks := false }, kinds := [], alts := [], laidByText := true, laidKinds := [.data, .pinned], laidTests := true, laidLooks := .later }
def FunctionMoreCardSaid : Prop := Claim7.holds Tryd.pinned (.plain (OpenSpec.ofChange functionMoreSpec)) functionMoreCard

/-- THE TIED CARD OF 'decklelaw16.FunctionHead'. -/
def functionHeadCard : Claim7 := { stood := { row := functionHeadRow, standIns := [], harness := (true, "1924153a7ac6ef115712b9e4e570842a3b779409550ae002cc35a9c4b512b6a5"), looks := false }, kinds := [], alts := [], laidByText := true, laidKinds := [.data, .pinned], laidTests := true, laidLooks := .later }
def FunctionHeadCardSaid : Prop := Claim7.holds Tryd.pinned (.plain (OpenSpec.ofChange functionHeadSpec)) functionHeadCard

/-- THE SECOND FORM's CARD OF 'decklelaw16.FunctionTells'. -/
def functionTellsUptoCard : Claim7 := { stood := { row := functionTellsUptoRow, standIns := [], harness := (true, "1924153a7ac6ef115712b9e4e570842a3b779409550ae002cc35a9c4b512b6a5"), looks := false }, kinds := [], alts := [], laidByText := true, laidKinds := [.data, .pinned], laidTests := true, laidLooks := .later }
def FunctionTellsUptoCardSaid : Prop := Claim7.holds Tryd.pinned (.plain (OpenSpec.upto functionTellsSpec)) functionTellsUptoCard

/-- THE SECOND FORM's CARD OF 'decklelaw16.FunctionBack'. -/
def functionBackUptoCard : Claim7 := { stood := { row := functionBackUptoRow, standIns := [], harness := (true, "1924153a7ac6ef115712b9e4e570842a3b779409550ae002cc35a9c4b512b6a5"), looks := false }, kinds := [], alts := [], laidByText := true, laidKinds := [.data, .pinned], laidTests := true, laidLooks := .later }
def FunctionBackUptoCardSaid : Prop := Claim7.holds Tryd.pinned (.plain (OpenSpec.upto functionBackSpec)) functionBackUptoCard

/-- THE SECOND FORM's CARD OF 'decklelaw16.FunctionNames'. -/
def functionNamesUptoCard : Claim7 := { stood := { row := functionNamesUptoRow, standIns := [], harness := (true, "1924153a7ac6ef115712b9e4e570842a3b779409550ae002cc35a9c4b512b6a5"), looks := false }, kinds := [], alts := [], laidByText := true, laidKinds := [.data, .pinned], laidTests := true, laidLooks := .later }
def FunctionNamesUptoCardSaid : Prop := Claim7.holds Tryd.pinned (.plain (OpenSpec.upto functionNamesSpec)) functionNamesUptoCard

/-- THE SECOND FORM's CARD OF 'decklelaw16.FunctionMore'. -/
def functionMoreUptoCard : Claim7 := { stood := { row := functionMoreUptoRow, standIns := [], harness := (true, "1924153a7ac6ef115712b9e4e570842a3b779409550ae002cc35a9c4b512b6a5"), looks := false }, kinds := [], alts := [], laidByText := true, laidKinds := [.data, .pinned], laidTests := true, laidLooks := .later }
def FunctionMoreUptoCardSaid : Prop := Claim7.holds Tryd.pinned (.plain (OpenSpec.upto functionMoreSpec)) functionMoreUptoCard

/-- THE SECOND FORM's CARD OF 'decklelaw16.FunctionHead'. -/
def functionHeadUptoCard : Claim7 := { stood := { row := functionHeadUptoRow, standIns := [], harness := (true, "1924153a7ac6ef115712b9e4e570842a3b779409550ae002cc35a9c4b512b6a5"), looks := false }, kinds := [], alts := [], laidByText := true, laidKinds := [.data, .pinned], laidTests := true, laidLooks := .later }
def FunctionHeadUptoCardSaid : Prop := Claim7.holds Tryd.pinned (.plain (OpenSpec.upto functionHeadSpec)) functionHeadUptoCard
end Rows
end Go.Proofs.YtcnijmmpkahoaaaDoor
