/-
  DERIVED. GIVEN WITH THE SEED: THE CARDS: each row of YtcpjfpdecklkgaaGreatDoorRows.lean that lists a variable, with what it lists TIED to the program's text (the seventh form; the later family's looks); each row that meets fmt, with fmt's text TOLD by the authors' own Lean function (tested against real Go, not proved from fmt's source: count such statements apart). THE CARD IS WHAT COUNTS. Prove the row's statement (the work); the ties are given (YtcpjfpdecklkgaaGreatDoorTie.lean); close each card by the builder's one call (the guide's Derived/Test/ToyasCard.lean, 'card_holds'). Laid BY PROGRAM, IN A SANDBOX (cutbox-door.mjs). By AI agents, Wed Nov 11 2026. No macro, syntax, notation, axiom, sorry.
-/
import Derived.Test.YtcpjfpdecklkgaaGreatDoorRows
import GoSem.ClaimSeven
namespace Go.Proofs.YtcpjfpdecklkgaaGreatDoor
namespace Rows

/-- THE TIED CARD OF 'shipwrightlaw7.CheckAll'. -/
def checkAllCard : Claim7 := { stood := { row := checkAllRow, standIns := [], harness := (true, "6f7c003e4f6d8254641ee36ff567f2143fe8d14ecae87772f207be3a7d36cc77"), looks := true }, kinds := [], alts := [], laidByText := true, laidKinds := [.data, .data, .data, .data, .sentinel, .sentinel, .data, .pinned], laidTests := true, laidLooks := .later }
def CheckAllCardSaid : Prop := Claim7.holds Tryz.pinned (.plain (OpenSpec.ofChange checkAllSpec)) checkAllCard

/-- THE TIED CARD OF 'shipwrightlaw7.CheckRing'. -/
def checkRingCard : Claim7 := { stood := { row := checkRingRow, standIns := [], harness := (true, "6f7c003e4f6d8254641ee36ff567f2143fe8d14ecae87772f207be3a7d36cc77"), looks := true }, kinds := [], alts := [], laidByText := true, laidKinds := [.data, .data, .data, .data, .sentinel, .sentinel, .data, .pinned], laidTests := true, laidLooks := .later }
def CheckRingCardSaid : Prop := Claim7.holds Tryz.pinned (.plain (OpenSpec.ofChange checkRingSpec)) checkRingCard

/-- THE SECOND FORM's CARD OF 'shipwrightlaw7.CheckAll'. -/
def checkAllUptoCard : Claim7 := { stood := { row := checkAllUptoRow, standIns := [], harness := (true, "6f7c003e4f6d8254641ee36ff567f2143fe8d14ecae87772f207be3a7d36cc77"), looks := true }, kinds := [], alts := [], laidByText := true, laidKinds := [.data, .data, .data, .data, .sentinel, .sentinel, .data, .pinned], laidTests := true, laidLooks := .later }
def CheckAllUptoCardSaid : Prop := Claim7.holds Tryz.pinned (.plain (OpenSpec.upto checkAllSpec)) checkAllUptoCard

/-- THE SECOND FORM's CARD OF 'shipwrightlaw7.CheckRing'. -/
def checkRingUptoCard : Claim7 := { stood := { row := checkRingUptoRow, standIns := [], harness := (true, "6f7c003e4f6d8254641ee36ff567f2143fe8d14ecae87772f207be3a7d36cc77"), looks := true }, kinds := [], alts := [], laidByText := true, laidKinds := [.data, .data, .data, .data, .sentinel, .sentinel, .data, .pinned], laidTests := true, laidLooks := .later }
def CheckRingUptoCardSaid : Prop := Claim7.holds Tryz.pinned (.plain (OpenSpec.upto checkRingSpec)) checkRingUptoCard
end Rows
end Go.Proofs.YtcpjfpdecklkgaaGreatDoor
