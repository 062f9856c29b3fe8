/-
  DERIVED. GIVEN WITH THE SEED: THE CARDS: each row of YtibcnekkmnicbaaDoorRows.lean that lists a variable, with what it lists TIED to the program's text (the seventh form; the later family's looks); each row that meets fmt, with fmt's text TOLD by the authors' own Lean function (tested against real Go, not proved from fmt's source: count such statements apart). THE CARD IS WHAT COUNTS. Prove the row's statement (the work); the ties are given (YtibcnekkmnicbaaDoorTie.lean); close each card by the builder's one call (the guide's Derived/Test/ToyasCard.lean, 'card_holds'). Laid BY PROGRAM, IN A SANDBOX (cutbox-door.mjs). By AI agents, Wed Nov 11 2026. No macro, syntax, notation, axiom, sorry.
-/
import Derived.Test.YtibcnekkmnicbaaDoorRows
import GoSem.ClaimSeven
namespace Go.Proofs.YtibcnekkmnicbaaDoor
namespace Rows

/-- THE TIED CARD OF 'decklelaw15.HeaderTells'. -/
def headerTellsCard : Claim7 := { stood := { row := headerTellsRow, standIns := [], harness := (true, "871f73e725e2524b9c6398e1d5bcb3340a195037661555375d4ae2cd83f0ac73"), looks := false }, kinds := [], alts := [], laidByText := true, laidKinds := [.data, .pinned], laidTests := true, laidLooks := .later }
def HeaderTellsCardSaid : Prop := Claim7.holds Tryd.pinned (.plain (OpenSpec.ofChange headerTellsSpec)) headerTellsCard

/-- THE TIED CARD OF 'decklelaw15.HeaderBack'. -/
def headerBackCard : Claim7 := { stood := { row := headerBackRow, standIns := [], harness := (true, "871f73e725e2524b9c6398e1d5bcb3340a195037661555375d4ae2cd83f0ac73"), looks := false }, kinds := [], alts := [], laidByText := true, laidKinds := [.data, .pinned], laidTests := true, laidLooks := .later }
def HeaderBackCardSaid : Prop := Claim7.holds Tryd.pinned (.plain (OpenSpec.ofChange headerBackSpec)) headerBackCard

/-- THE TIED CARD OF 'decklelaw15.HeaderOnce'. -/
def headerOnceCard : Claim7 := { stood := { row := headerOnceRow, standIns := [], harness := (true, "871f73e725e2524b9c6398e1d5bcb3340a195037661555375d4ae2cd83f0ac73"), looks := false }, kinds := [], alts := [], laidByText := true, laidKinds := [.data, .pinned], laidTests := true, laidLooks := .later }
def HeaderOnceCardSaid : Prop := Claim7.holds Tryd.pinned (.plain (OpenSpec.ofChange headerOnceSpec)) headerOnceCard

/-- THE TIED CARD OF 'decklelaw15.HeaderLocals'. -/
def headerLocalsCard : Claim7 := { stood := { row := headerLocalsRow, standIns := [], harness := (true, "871f73e725e2524b9c6398e1d5bcb3340a195037661555375d4ae2cd83f0ac73"), looks := false }, kinds := [], alts := [], laidByText := true, laidKinds := [.data, .pinned], laidTests := true, laidLooks := .later }
def HeaderLocalsCardSaid : Prop := Claim7.holds Tryd.pinned (.plain (OpenSpec.ofChange headerLocalsSpec)) headerLocalsCard

/-- THE TIED CARD OF 'decklelaw15.HeaderResult'. -/
def headerResultCard : Claim7 := { stood := { row := headerResultRow, standIns := [], harness := (true, "871f73e725e2524b9c6398e1d5bcb3340a195037661555375d4ae2cd83f0ac73"), looks := false }, kinds := [], alts := [], laidByText := true, laidKinds := [.data, .pinned], laidTests := true, laidLooks := .later }
def HeaderResultCardSaid : Prop := Claim7.holds Tryd.pinned (.plain (OpenSpec.ofChange headerResultSpec)) headerResultCard

/-- THE SECOND FORM's CARD OF 'decklelaw15.HeaderTells'. -/
def headerTellsUptoCard : Claim7 := { stood := { row := headerTellsUptoRow, standIns := [], harness := (true, "871f73e725e2524b9c6398e1d5bcb3340a195037661555375d4ae2cd83f0ac73"), looks := false }, kinds := [], alts := [], laidByText := true, laidKinds := [.data, .pinned], laidTests := true, laidLooks := .later }
def HeaderTellsUptoCardSaid : Prop := Claim7.holds Tryd.pinned (.plain (OpenSpec.upto headerTellsSpec)) headerTellsUptoCard

/-- THE SECOND FORM's CARD OF 'decklelaw15.HeaderBack'. -/
def headerBackUptoCard : Claim7 := { stood := { row := headerBackUptoRow, standIns := [], harness := (true, "871f73e725e2524b9c6398e1d5bcb3340a195037661555375d4ae2cd83f0ac73"), looks := false }, kinds := [], alts := [], laidByText := true, laidKinds := [.data, .pinned], laidTests := true, laidLooks := .later }
def HeaderBackUptoCardSaid : Prop := Claim7.holds Tryd.pinned (.plain (OpenSpec.upto headerBackSpec)) headerBackUptoCard

/-- THE SECOND FORM's CARD OF 'decklelaw15.HeaderOnce'. -/
def headerOnceUptoCard : Claim7 := { stood := { row := headerOnceUptoRow, standIns := [], harness := (true, "871f73e725e2524b9c6398e1d5bcb3340a195037661555375d4ae2cd83f0ac73"), looks := false }, kinds := [], alts := [], laidByText := true, laidKinds := [.data, .pinned], laidTests := true, laidLooks := .later }
def HeaderOnceUptoCardSaid : Prop := Claim7.holds Tryd.pinned (.plain (OpenSpec.upto headerOnceSpec)) headerOnceUptoCard

/-- THE SECOND FORM's CARD OF 'decklelaw15.HeaderLocals'. -/
def headerLocalsUptoCard : Claim7 := { stood := { row := headerLocalsUptoRow, standIns := [], harness := (true, "871f73e725e2524b9c6398e1d5bcb3340a195037661555375d4ae2cd83f0ac73"), looks := false }, kinds := [], alts := [], laidByText := true, laidKinds := [.data, .pinned], laidTests := true, laidLooks := .later }
def HeaderLocalsUptoCardSaid : Prop := Claim7.holds Tryd.pinned (.plain (OpenSpec.upto headerLocalsSpec)) headerLocalsUptoCard

/-- THE SECOND FORM's CARD OF 'decklelaw15.HeaderResult'. -/
def headerResultUptoCard : Claim7 := { stood := { row := headerResultUptoRow, standIns := [], harness := (true, "871f73e725e2524b9c6398e1d5bcb3340a195037661555375d4ae2cd83f0ac73"), looks := false }, kinds := [], alts := [], laidByText := true, laidKinds := [.data, .pinned], laidTests := true, laidLooks := .later }
def HeaderResultUptoCardSaid : Prop := Claim7.holds Tryd.pinned (.plain (OpenSpec.upto headerResultSpec)) headerResultUptoCard
end Rows
end Go.Proofs.YtibcnekkmnicbaaDoor
