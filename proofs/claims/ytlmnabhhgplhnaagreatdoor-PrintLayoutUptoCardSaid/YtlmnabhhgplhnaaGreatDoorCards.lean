/-
  DERIVED. GIVEN WITH THE SEED: THE CARDS: each row of YtlmnabhhgplhnaaGreatDoorRows.lean that lists a variable, with what it lists TIED to the program's text (the seventh form; the later family's looks); each row that meets fmt, with fmt's text TOLD by the authors' own Lean function (tested against real Go, not proved from fmt's source: count such statements apart). THE CARD IS WHAT COUNTS. Prove the row's statement (the work); the ties are given (YtlmnabhhgplhnaaGreatDoorTie.lean); close each card by the builder's one call (the guide's Derived/Test/ToyasCard.lean, 'card_holds'). Laid BY PROGRAM, IN A SANDBOX (cutbox-door.mjs). By AI agents, Wed Nov 11 2026. No macro, syntax, notation, axiom, sorry.
-/
import Derived.Test.YtlmnabhhgplhnaaGreatDoorRows
import GoSem.ClaimSeven
namespace Go.Proofs.YtlmnabhhgplhnaaGreatDoor
namespace Rows

/-- THE TIED CARD OF 'shipwrightlaw4.PrintBack'. -/
def printBackCard : Claim7 := { stood := { row := printBackRow, standIns := [], harness := (true, "911632e28ab7cb24527fdf8a454a1e2154b1188e23ab3a7392f1de6fa5200474"), looks := true }, kinds := [], alts := [], laidByText := true, laidKinds := [.data, .data, .data, .data, .sentinel, .sentinel, .data, .pinned], laidTests := true, laidLooks := .later }
def PrintBackCardSaid : Prop := Claim7.holds Tryz.pinned (.plain (OpenSpec.ofChange printBackSpec)) printBackCard

/-- THE TIED CARD OF 'shipwrightlaw4.PrintLayout'. -/
def printLayoutCard : Claim7 := { stood := { row := printLayoutRow, standIns := [], harness := (true, "911632e28ab7cb24527fdf8a454a1e2154b1188e23ab3a7392f1de6fa5200474"), looks := true }, kinds := [], alts := [], laidByText := true, laidKinds := [.data, .data, .data, .data, .sentinel, .sentinel, .data, .pinned], laidTests := true, laidLooks := .later }
def PrintLayoutCardSaid : Prop := Claim7.holds Tryz.pinned (.plain (OpenSpec.ofChange printLayoutSpec)) printLayoutCard

/-- THE SECOND FORM's CARD OF 'shipwrightlaw4.PrintBack'. -/
def printBackUptoCard : Claim7 := { stood := { row := printBackUptoRow, standIns := [], harness := (true, "911632e28ab7cb24527fdf8a454a1e2154b1188e23ab3a7392f1de6fa5200474"), looks := true }, kinds := [], alts := [], laidByText := true, laidKinds := [.data, .data, .data, .data, .sentinel, .sentinel, .data, .pinned], laidTests := true, laidLooks := .later }
def PrintBackUptoCardSaid : Prop := Claim7.holds Tryz.pinned (.plain (OpenSpec.upto printBackSpec)) printBackUptoCard

/-- THE SECOND FORM's CARD OF 'shipwrightlaw4.PrintLayout'. -/
def printLayoutUptoCard : Claim7 := { stood := { row := printLayoutUptoRow, standIns := [], harness := (true, "911632e28ab7cb24527fdf8a454a1e2154b1188e23ab3a7392f1de6fa5200474"), looks := true }, kinds := [], alts := [], laidByText := true, laidKinds := [.data, .data, .data, .data, .sentinel, .sentinel, .data, .pinned], laidTests := true, laidLooks := .later }
def PrintLayoutUptoCardSaid : Prop := Claim7.holds Tryz.pinned (.plain (OpenSpec.upto printLayoutSpec)) printLayoutUptoCard
end Rows
end Go.Proofs.YtlmnabhhgplhnaaGreatDoor
