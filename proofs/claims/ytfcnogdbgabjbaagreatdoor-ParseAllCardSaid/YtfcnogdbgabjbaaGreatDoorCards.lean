/-
  DERIVED. GIVEN WITH THE SEED: THE CARDS: each row of YtfcnogdbgabjbaaGreatDoorRows.lean that lists a variable, with what it lists TIED to the program's text (the seventh form; the later family's looks); each row that meets fmt, with fmt's text TOLD by the authors' own Lean function (tested against real Go, not proved from fmt's source: count such statements apart). THE CARD IS WHAT COUNTS. Prove the row's statement (the work); the ties are given (YtfcnogdbgabjbaaGreatDoorTie.lean); close each card by the builder's one call (the guide's Derived/Test/ToyasCard.lean, 'card_holds'). Laid BY PROGRAM, IN A SANDBOX (cutbox-door.mjs). By AI agents, Wed Nov 11 2026. No macro, syntax, notation, axiom, sorry.
-/
import Derived.Test.YtfcnogdbgabjbaaGreatDoorRows
import GoSem.ClaimSeven
namespace Go.Proofs.YtfcnogdbgabjbaaGreatDoor
namespace Rows

/-- THE TIED CARD OF 'shipwrightlaw4.LexQuote'. -/
def lexQuoteCard : Claim7 := { stood := { row := lexQuoteRow, standIns := [], harness := (true, "51044356eaa110c03a4134b0c18a36da1b282e0f1014da91e59c9737aa4ef30a"), looks := true }, kinds := [], alts := [], laidByText := true, laidKinds := [.data, .data, .data, .data, .sentinel, .sentinel, .data, .pinned], laidTests := true, laidLooks := .later }
def LexQuoteCardSaid : Prop := Claim7.holds Tryz.pinned (.plain (OpenSpec.ofChange lexQuoteSpec)) lexQuoteCard

/-- THE TIED CARD OF 'shipwrightlaw4.LexGap'. -/
def lexGapCard : Claim7 := { stood := { row := lexGapRow, standIns := [], harness := (true, "51044356eaa110c03a4134b0c18a36da1b282e0f1014da91e59c9737aa4ef30a"), looks := true }, kinds := [], alts := [], laidByText := true, laidKinds := [.data, .data, .data, .data, .sentinel, .sentinel, .data, .pinned], laidTests := true, laidLooks := .later }
def LexGapCardSaid : Prop := Claim7.holds Tryz.pinned (.plain (OpenSpec.ofChange lexGapSpec)) lexGapCard

/-- THE TIED CARD OF 'shipwrightlaw4.ParseAll'. -/
def parseAllCard : Claim7 := { stood := { row := parseAllRow, standIns := [], harness := (true, "51044356eaa110c03a4134b0c18a36da1b282e0f1014da91e59c9737aa4ef30a"), looks := true }, kinds := [], alts := [], laidByText := true, laidKinds := [.data, .data, .data, .data, .sentinel, .sentinel, .data, .pinned], laidTests := true, laidLooks := .later }
def ParseAllCardSaid : Prop := Claim7.holds Tryz.pinned (.plain (OpenSpec.ofChange parseAllSpec)) parseAllCard

/-- THE TIED CARD OF 'shipwrightlaw4.ParseTwo'. -/
def parseTwoCard : Claim7 := { stood := { row := parseTwoRow, standIns := [], harness := (true, "51044356eaa110c03a4134b0c18a36da1b282e0f1014da91e59c9737aa4ef30a"), looks := true }, kinds := [], alts := [], laidByText := true, laidKinds := [.data, .data, .data, .data, .sentinel, .sentinel, .data, .pinned], laidTests := true, laidLooks := .later }
def ParseTwoCardSaid : Prop := Claim7.holds Tryz.pinned (.plain (OpenSpec.ofChange parseTwoSpec)) parseTwoCard

/-- THE TIED CARD OF 'shipwrightlaw4.ParsePrefix'. -/
def parsePrefixCard : Claim7 := { stood := { row := parsePrefixRow, standIns := [], harness := (true, "51044356eaa110c03a4134b0c18a36da1b282e0f1014da91e59c9737aa4ef30a"), looks := true }, kinds := [], alts := [], laidByText := true, laidKinds := [.data, .data, .data, .data, .sentinel, .sentinel, .data, .pinned], laidTests := true, laidLooks := .later }
def ParsePrefixCardSaid : Prop := Claim7.holds Tryz.pinned (.plain (OpenSpec.ofChange parsePrefixSpec)) parsePrefixCard

/-- THE TIED CARD OF 'shipwrightlaw4.ParseTurn'. -/
def parseTurnCard : Claim7 := { stood := { row := parseTurnRow, standIns := [], harness := (true, "51044356eaa110c03a4134b0c18a36da1b282e0f1014da91e59c9737aa4ef30a"), looks := true }, kinds := [], alts := [], laidByText := true, laidKinds := [.data, .data, .data, .data, .sentinel, .sentinel, .data, .pinned], laidTests := true, laidLooks := .later }
def ParseTurnCardSaid : Prop := Claim7.holds Tryz.pinned (.plain (OpenSpec.ofChange parseTurnSpec)) parseTurnCard

/-- THE SECOND FORM's CARD OF 'shipwrightlaw4.LexQuote'. -/
def lexQuoteUptoCard : Claim7 := { stood := { row := lexQuoteUptoRow, standIns := [], harness := (true, "51044356eaa110c03a4134b0c18a36da1b282e0f1014da91e59c9737aa4ef30a"), looks := true }, kinds := [], alts := [], laidByText := true, laidKinds := [.data, .data, .data, .data, .sentinel, .sentinel, .data, .pinned], laidTests := true, laidLooks := .later }
def LexQuoteUptoCardSaid : Prop := Claim7.holds Tryz.pinned (.plain (OpenSpec.upto lexQuoteSpec)) lexQuoteUptoCard

/-- THE SECOND FORM's CARD OF 'shipwrightlaw4.LexGap'. -/
def lexGapUptoCard : Claim7 := { stood := { row := lexGapUptoRow, standIns := [], harness := (true, "51044356eaa110c03a4134b0c18a36da1b282e0f1014da91e59c9737aa4ef30a"), looks := true }, kinds := [], alts := [], laidByText := true, laidKinds := [.data, .data, .data, .data, .sentinel, .sentinel, .data, .pinned], laidTests := true, laidLooks := .later }
def LexGapUptoCardSaid : Prop := Claim7.holds Tryz.pinned (.plain (OpenSpec.upto lexGapSpec)) lexGapUptoCard

/-- THE SECOND FORM's CARD OF 'shipwrightlaw4.ParseAll'. -/
def parseAllUptoCard : Claim7 := { stood := { row := parseAllUptoRow, standIns := [], harness := (true, "51044356eaa110c03a4134b0c18a36da1b282e0f1014da91e59c9737aa4ef30a"), looks := true }, kinds := [], alts := [], laidByText := true, laidKinds := [.data, .data, .data, .data, .sentinel, .sentinel, .data, .pinned], laidTests := true, laidLooks := .later }
def ParseAllUptoCardSaid : Prop := Claim7.holds Tryz.pinned (.plain (OpenSpec.upto parseAllSpec)) parseAllUptoCard

/-- THE SECOND FORM's CARD OF 'shipwrightlaw4.ParseTwo'. -/
def parseTwoUptoCard : Claim7 := { stood := { row := parseTwoUptoRow, standIns := [], harness := (true, "51044356eaa110c03a4134b0c18a36da1b282e0f1014da91e59c9737aa4ef30a"), looks := true }, kinds := [], alts := [], laidByText := true, laidKinds := [.data, .data, .data, .data, .sentinel, .sentinel, .data, .pinned], laidTests := true, laidLooks := .later }
def ParseTwoUptoCardSaid : Prop := Claim7.holds Tryz.pinned (.plain (OpenSpec.upto parseTwoSpec)) parseTwoUptoCard

/-- THE SECOND FORM's CARD OF 'shipwrightlaw4.ParsePrefix'. -/
def parsePrefixUptoCard : Claim7 := { stood := { row := parsePrefixUptoRow, standIns := [], harness := (true, "51044356eaa110c03a4134b0c18a36da1b282e0f1014da91e59c9737aa4ef30a"), looks := true }, kinds := [], alts := [], laidByText := true, laidKinds := [.data, .data, .data, .data, .sentinel, .sentinel, .data, .pinned], laidTests := true, laidLooks := .later }
def ParsePrefixUptoCardSaid : Prop := Claim7.holds Tryz.pinned (.plain (OpenSpec.upto parsePrefixSpec)) parsePrefixUptoCard

/-- THE SECOND FORM's CARD OF 'shipwrightlaw4.ParseTurn'. -/
def parseTurnUptoCard : Claim7 := { stood := { row := parseTurnUptoRow, standIns := [], harness := (true, "51044356eaa110c03a4134b0c18a36da1b282e0f1014da91e59c9737aa4ef30a"), looks := true }, kinds := [], alts := [], laidByText := true, laidKinds := [.data, .data, .data, .data, .sentinel, .sentinel, .data, .pinned], laidTests := true, laidLooks := .later }
def ParseTurnUptoCardSaid : Prop := Claim7.holds Tryz.pinned (.plain (OpenSpec.upto parseTurnSpec)) parseTurnUptoCard
end Rows
end Go.Proofs.YtfcnogdbgabjbaaGreatDoor
