/-
  DERIVED. GIVEN WITH THE SEED: THE CARDS: each row of YthmhpjjpjgmdaaaDoorRows.lean that lists a variable, with what it lists TIED to the program's text (the seventh form; the later family's looks); each row that meets fmt, with fmt's text TOLD by the authors' own Lean function (tested against real Go, not proved from fmt's source: count such statements apart). THE CARD IS WHAT COUNTS. Prove the row's statement (the work); the ties are given (YthmhpjjpjgmdaaaDoorTie.lean); close each card by the builder's one call (the guide's Derived/Test/ToyasCard.lean, 'card_holds'). Laid BY PROGRAM, IN A SANDBOX (cutbox-door.mjs). By AI agents, Wed Nov 11 2026. No macro, syntax, notation, axiom, sorry.
-/
import Derived.Test.YthmhpjjpjgmdaaaDoorRows
import GoSem.ClaimSeven
namespace Go.Proofs.YthmhpjjpjgmdaaaDoor
namespace Rows

/-- THE TIED CARD OF 'decklelaw13.QuoteTells'. -/
def quoteTellsCard : Claim7 := { stood := { row := quoteTellsRow, standIns := [], harness := (true, "57aba6ed2bb82d3672b1fe29cfbab2bd1dd9b8dae35c9972b7c688b9ee425fb1"), looks := false }, kinds := [], alts := [], laidByText := true, laidKinds := [.data, .pinned], laidTests := true, laidLooks := .later }
def QuoteTellsCardSaid : Prop := Claim7.holds Tryd.pinned (.plain (OpenSpec.ofChange quoteTellsSpec)) quoteTellsCard

/-- THE TIED CARD OF 'decklelaw13.QuoteBack'. -/
def quoteBackCard : Claim7 := { stood := { row := quoteBackRow, standIns := [], harness := (true, "57aba6ed2bb82d3672b1fe29cfbab2bd1dd9b8dae35c9972b7c688b9ee425fb1"), looks := false }, kinds := [], alts := [], laidByText := true, laidKinds := [.data, .pinned], laidTests := true, laidLooks := .later }
def QuoteBackCardSaid : Prop := Claim7.holds Tryd.pinned (.plain (OpenSpec.ofChange quoteBackSpec)) quoteBackCard

/-- THE TIED CARD OF 'decklelaw13.QuoteOnce'. -/
def quoteOnceCard : Claim7 := { stood := { row := quoteOnceRow, standIns := [], harness := (true, "57aba6ed2bb82d3672b1fe29cfbab2bd1dd9b8dae35c9972b7c688b9ee425fb1"), looks := false }, kinds := [], alts := [], laidByText := true, laidKinds := [.data, .pinned], laidTests := true, laidLooks := .later }
def QuoteOnceCardSaid : Prop := Claim7.holds Tryd.pinned (.plain (OpenSpec.ofChange quoteOnceSpec)) quoteOnceCard

/-- THE TIED CARD OF 'decklelaw13.QuoteParts'. -/
def quotePartsCard : Claim7 := { stood := { row := quotePartsRow, standIns := [], harness := (true, "57aba6ed2bb82d3672b1fe29cfbab2bd1dd9b8dae35c9972b7c688b9ee425fb1"), looks := false }, kinds := [], alts := [], laidByText := true, laidKinds := [.data, .pinned], laidTests := true, laidLooks := .later }
def QuotePartsCardSaid : Prop := Claim7.holds Tryd.pinned (.plain (OpenSpec.ofChange quotePartsSpec)) quotePartsCard

/-- THE TIED CARD OF 'decklelaw13.QuoteCounts'. -/
def quoteCountsCard : Claim7 := { stood := { row := quoteCountsRow, standIns := [], harness := (true, "57aba6ed2bb82d3672b1fe29cfbab2bd1dd9b8dae35c9972b7c688b9ee425fb1"), looks := false }, kinds := [], alts := [], laidByText := true, laidKinds := [.data, .pinned], laidTests := true, laidLooks := .later }
def QuoteCountsCardSaid : Prop := Claim7.holds Tryd.pinned (.plain (OpenSpec.ofChange quoteCountsSpec)) quoteCountsCard

/-- THE SECOND FORM's CARD OF 'decklelaw13.QuoteTells'. -/
def quoteTellsUptoCard : Claim7 := { stood := { row := quoteTellsUptoRow, standIns := [], harness := (true, "57aba6ed2bb82d3672b1fe29cfbab2bd1dd9b8dae35c9972b7c688b9ee425fb1"), looks := false }, kinds := [], alts := [], laidByText := true, laidKinds := [.data, .pinned], laidTests := true, laidLooks := .later }
def QuoteTellsUptoCardSaid : Prop := Claim7.holds Tryd.pinned (.plain (OpenSpec.upto quoteTellsSpec)) quoteTellsUptoCard

/-- THE SECOND FORM's CARD OF 'decklelaw13.QuoteBack'. -/
def quoteBackUptoCard : Claim7 := { stood := { row := quoteBackUptoRow, standIns := [], harness := (true, "57aba6ed2bb82d3672b1fe29cfbab2bd1dd9b8dae35c9972b7c688b9ee425fb1"), looks := false }, kinds := [], alts := [], laidByText := true, laidKinds := [.data, .pinned], laidTests := true, laidLooks := .later }
def QuoteBackUptoCardSaid : Prop := Claim7.holds Tryd.pinned (.plain (OpenSpec.upto quoteBackSpec)) quoteBackUptoCard

/-- THE SECOND FORM's CARD OF 'decklelaw13.QuoteOnce'. -/
def quoteOnceUptoCard : Claim7 := { stood := { row := quoteOnceUptoRow, standIns := [], harness := (true, "57aba6ed2bb82d3672b1fe29cfbab2bd1dd9b8dae35c9972b7c688b9ee425fb1"), looks := false }, kinds := [], alts := [], laidByText := true, laidKinds := [.data, .pinned], laidTests := true, laidLooks := .later }
def QuoteOnceUptoCardSaid : Prop := Claim7.holds Tryd.pinned (.plain (OpenSpec.upto quoteOnceSpec)) quoteOnceUptoCard

/-- THE SECOND FORM's CARD OF 'decklelaw13.QuoteParts'. -/
def quotePartsUptoCard : Claim7 := { stood := { row := quotePartsUptoRow, standIns := [], harness := (true, "57aba6ed2bb82d3672b1fe29cfbab2bd1dd9b8dae35c9972b7c688b9ee425fb1"), looks := false }, kinds := [], alts := [], laidByText := true, laidKinds := [.data, .pinned], laidTests := true, laidLooks := .later }
def QuotePartsUptoCardSaid : Prop := Claim7.holds Tryd.pinned (.plain (OpenSpec.upto quotePartsSpec)) quotePartsUptoCard

/-- THE SECOND FORM's CARD OF 'decklelaw13.QuoteCounts'. -/
def quoteCountsUptoCard : Claim7 := { stood := { row := quoteCountsUptoRow, standIns := [], harness := (true, "57aba6ed2bb82d3672b1fe29cfbab2bd1dd9b8dae35c9972b7c688b9ee425fb1"), looks := false }, kinds := [], alts := [], laidByText := true, laidKinds := [.data, .pinned], laidTests := true, laidLooks := .later }
def QuoteCountsUptoCardSaid : Prop := Claim7.holds Tryd.pinned (.plain (OpenSpec.upto quoteCountsSpec)) quoteCountsUptoCard
end Rows
end Go.Proofs.YthmhpjjpjgmdaaaDoor
