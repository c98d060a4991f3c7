/-
  DERIVED. GIVEN WITH THE SEED: THE CARDS: each row of YtknpcbjjofdlmaaGreatDoorRows.lean that lists a variable, with what it lists TIED to the program's text (the seventh form; the later family's looks); each row that meets fmt, with fmt's text TOLD by the authors' own Lean function (tested against real Go, not proved from fmt's source: count such statements apart). THE CARD IS WHAT COUNTS. Prove the row's statement (the work); the ties are given (YtknpcbjjofdlmaaGreatDoorTie.lean); close each card by the builder's one call (the guide's Derived/Test/ToyasCard.lean, 'card_holds'). Laid BY PROGRAM, IN A SANDBOX (cutbox-door.mjs). By AI agents, Wed Nov 11 2026. No macro, syntax, notation, axiom, sorry.
-/
import Derived.Test.YtknpcbjjofdlmaaGreatDoorRows
import GoSem.ClaimSeven
namespace Go.Proofs.YtknpcbjjofdlmaaGreatDoor
namespace Rows

/-- THE TIED CARD OF 'shipwrightlaw4.ParseTurn'. -/
def parseTurnCard : Claim7 := { stood := { row := parseTurnRow, standIns := [], harness := (true, "2f15227003183fa333bf14e4bdf3fdd64cb33d18c3d1c621af043a6190430640"), looks := true }, kinds := [], alts := [], laidByText := true, laidKinds := [.data, .data, .data, .data, .sentinel, .sentinel, .data, .pinned], laidTests := true, laidLooks := .later }
def ParseTurnCardSaid : Prop := Claim7.holds Tryz.pinned (.plain (OpenSpec.ofChange parseTurnSpec)) parseTurnCard

/-- THE TIED CARD OF 'shipwrightlaw4.PrintBack'. -/
def printBackCard : Claim7 := { stood := { row := printBackRow, standIns := [], harness := (true, "2f15227003183fa333bf14e4bdf3fdd64cb33d18c3d1c621af043a6190430640"), looks := true }, kinds := [], alts := [], laidByText := true, laidKinds := [.data, .data, .data, .data, .sentinel, .sentinel, .data, .pinned], laidTests := true, laidLooks := .later }
def PrintBackCardSaid : Prop := Claim7.holds Tryz.pinned (.plain (OpenSpec.ofChange printBackSpec)) printBackCard

/-- THE TIED CARD OF 'shipwrightlaw4.PrintLayout'. -/
def printLayoutCard : Claim7 := { stood := { row := printLayoutRow, standIns := [], harness := (true, "2f15227003183fa333bf14e4bdf3fdd64cb33d18c3d1c621af043a6190430640"), looks := true }, kinds := [], alts := [], laidByText := true, laidKinds := [.data, .data, .data, .data, .sentinel, .sentinel, .data, .pinned], laidTests := true, laidLooks := .later }
def PrintLayoutCardSaid : Prop := Claim7.holds Tryz.pinned (.plain (OpenSpec.ofChange printLayoutSpec)) printLayoutCard

/-- THE TIED CARD OF 'shipwrightlaw4.ParsePrefix'. -/
def parsePrefixCard : Claim7 := { stood := { row := parsePrefixRow, standIns := [], harness := (true, "2f15227003183fa333bf14e4bdf3fdd64cb33d18c3d1c621af043a6190430640"), looks := true }, kinds := [], alts := [], laidByText := true, laidKinds := [.data, .data, .data, .data, .sentinel, .sentinel, .data, .pinned], laidTests := true, laidLooks := .later }
def ParsePrefixCardSaid : Prop := Claim7.holds Tryz.pinned (.plain (OpenSpec.ofChange parsePrefixSpec)) parsePrefixCard

/-- THE TIED CARD OF 'shipwrightlaw4.PrintSorted'. -/
def printSortedCard : Claim7 := { stood := { row := printSortedRow, standIns := [], harness := (true, "2f15227003183fa333bf14e4bdf3fdd64cb33d18c3d1c621af043a6190430640"), looks := true }, kinds := [], alts := [], laidByText := true, laidKinds := [.data, .data, .data, .data, .sentinel, .sentinel, .data, .pinned], laidTests := true, laidLooks := .later }
def PrintSortedCardSaid : Prop := Claim7.holds Tryz.pinned (.plain (OpenSpec.ofChange printSortedSpec)) printSortedCard

/-- THE SECOND FORM's CARD OF 'shipwrightlaw4.ParseTurn'. -/
def parseTurnUptoCard : Claim7 := { stood := { row := parseTurnUptoRow, standIns := [], harness := (true, "2f15227003183fa333bf14e4bdf3fdd64cb33d18c3d1c621af043a6190430640"), looks := true }, kinds := [], alts := [], laidByText := true, laidKinds := [.data, .data, .data, .data, .sentinel, .sentinel, .data, .pinned], laidTests := true, laidLooks := .later }
def ParseTurnUptoCardSaid : Prop := Claim7.holds Tryz.pinned (.plain (OpenSpec.upto parseTurnSpec)) parseTurnUptoCard

/-- THE SECOND FORM's CARD OF 'shipwrightlaw4.PrintBack'. -/
def printBackUptoCard : Claim7 := { stood := { row := printBackUptoRow, standIns := [], harness := (true, "2f15227003183fa333bf14e4bdf3fdd64cb33d18c3d1c621af043a6190430640"), looks := true }, kinds := [], alts := [], laidByText := true, laidKinds := [.data, .data, .data, .data, .sentinel, .sentinel, .data, .pinned], laidTests := true, laidLooks := .later }
def PrintBackUptoCardSaid : Prop := Claim7.holds Tryz.pinned (.plain (OpenSpec.upto printBackSpec)) printBackUptoCard

/-- THE SECOND FORM's CARD OF 'shipwrightlaw4.PrintLayout'. -/
def printLayoutUptoCard : Claim7 := { stood := { row := printLayoutUptoRow, standIns := [], harness := (true, "2f15227003183fa333bf14e4bdf3fdd64cb33d18c3d1c621af043a6190430640"), looks := true }, kinds := [], alts := [], laidByText := true, laidKinds := [.data, .data, .data, .data, .sentinel, .sentinel, .data, .pinned], laidTests := true, laidLooks := .later }
def PrintLayoutUptoCardSaid : Prop := Claim7.holds Tryz.pinned (.plain (OpenSpec.upto printLayoutSpec)) printLayoutUptoCard

/-- THE SECOND FORM's CARD OF 'shipwrightlaw4.ParsePrefix'. -/
def parsePrefixUptoCard : Claim7 := { stood := { row := parsePrefixUptoRow, standIns := [], harness := (true, "2f15227003183fa333bf14e4bdf3fdd64cb33d18c3d1c621af043a6190430640"), looks := true }, kinds := [], alts := [], laidByText := true, laidKinds := [.data, .data, .data, .data, .sentinel, .sentinel, .data, .pinned], laidTests := true, laidLooks := .later }
def ParsePrefixUptoCardSaid : Prop := Claim7.holds Tryz.pinned (.plain (OpenSpec.upto parsePrefixSpec)) parsePrefixUptoCard

/-- THE SECOND FORM's CARD OF 'shipwrightlaw4.PrintSorted'. -/
def printSortedUptoCard : Claim7 := { stood := { row := printSortedUptoRow, standIns := [], harness := (true, "2f15227003183fa333bf14e4bdf3fdd64cb33d18c3d1c621af043a6190430640"), looks := true }, kinds := [], alts := [], laidByText := true, laidKinds := [.data, .data, .data, .data, .sentinel, .sentinel, .data, .pinned], laidTests := true, laidLooks := .later }
def PrintSortedUptoCardSaid : Prop := Claim7.holds Tryz.pinned (.plain (OpenSpec.upto printSortedSpec)) printSortedUptoCard
end Rows
end Go.Proofs.YtknpcbjjofdlmaaGreatDoor
