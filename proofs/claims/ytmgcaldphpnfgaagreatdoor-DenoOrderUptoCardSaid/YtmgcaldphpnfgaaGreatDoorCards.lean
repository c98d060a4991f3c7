/-
  DERIVED. GIVEN WITH THE SEED: THE CARDS: each row of YtmgcaldphpnfgaaGreatDoorRows.lean that lists a variable, with what it lists TIED to the program's text (the seventh form; the later family's looks); each row that meets fmt, with fmt's text TOLD by the authors' own Lean function (tested against real Go, not proved from fmt's source: count such statements apart). THE CARD IS WHAT COUNTS. Prove the row's statement (the work); the ties are given (YtmgcaldphpnfgaaGreatDoorTie.lean); close each card by the builder's one call (the guide's Derived/Test/ToyasCard.lean, 'card_holds'). Laid BY PROGRAM, IN A SANDBOX (cutbox-door.mjs). By AI agents, Wed Nov 11 2026. No macro, syntax, notation, axiom, sorry.
-/
import Derived.Test.YtmgcaldphpnfgaaGreatDoorRows
import GoSem.ClaimSeven
namespace Go.Proofs.YtmgcaldphpnfgaaGreatDoor
namespace Rows

/-- THE TIED CARD OF 'shipwrightlaw7.SliceTurn'. -/
def sliceTurnCard : Claim7 := { stood := { row := sliceTurnRow, standIns := [], harness := (true, "810d40673c877f3f7da96aca09b26ee5c5c96fb61f820891006af7f9188fa4a8"), looks := true }, kinds := [], alts := [], laidByText := true, laidKinds := [.data, .data, .data, .data, .sentinel, .sentinel, .data, .pinned], laidTests := true, laidLooks := .later }
def SliceTurnCardSaid : Prop := Claim7.holds Tryz.pinned (.plain (OpenSpec.ofChange sliceTurnSpec)) sliceTurnCard

/-- THE TIED CARD OF 'shipwrightlaw7.RunPart'. -/
def runPartCard : Claim7 := { stood := { row := runPartRow, standIns := [], harness := (true, "810d40673c877f3f7da96aca09b26ee5c5c96fb61f820891006af7f9188fa4a8"), looks := true }, kinds := [], alts := [], laidByText := true, laidKinds := [.data, .data, .data, .data, .sentinel, .sentinel, .data, .pinned], laidTests := true, laidLooks := .later }
def RunPartCardSaid : Prop := Claim7.holds Tryz.pinned (.plain (OpenSpec.ofChange runPartSpec)) runPartCard

/-- THE TIED CARD OF 'shipwrightlaw7.CheckTurn'. -/
def checkTurnCard : Claim7 := { stood := { row := checkTurnRow, standIns := [], harness := (true, "810d40673c877f3f7da96aca09b26ee5c5c96fb61f820891006af7f9188fa4a8"), looks := true }, kinds := [], alts := [], laidByText := true, laidKinds := [.data, .data, .data, .data, .sentinel, .sentinel, .data, .pinned], laidTests := true, laidLooks := .later }
def CheckTurnCardSaid : Prop := Claim7.holds Tryz.pinned (.plain (OpenSpec.ofChange checkTurnSpec)) checkTurnCard

/-- THE TIED CARD OF 'shipwrightlaw7.DenoTree'. -/
def denoTreeCard : Claim7 := { stood := { row := denoTreeRow, standIns := [], harness := (true, "810d40673c877f3f7da96aca09b26ee5c5c96fb61f820891006af7f9188fa4a8"), looks := true }, kinds := [], alts := [], laidByText := true, laidKinds := [.data, .data, .data, .data, .sentinel, .sentinel, .data, .pinned], laidTests := true, laidLooks := .later }
def DenoTreeCardSaid : Prop := Claim7.holds Tryz.pinned (.plain (OpenSpec.ofChange denoTreeSpec)) denoTreeCard

/-- THE TIED CARD OF 'shipwrightlaw7.CheckAll'. -/
def checkAllCard : Claim7 := { stood := { row := checkAllRow, standIns := [], harness := (true, "810d40673c877f3f7da96aca09b26ee5c5c96fb61f820891006af7f9188fa4a8"), looks := true }, kinds := [], alts := [], laidByText := true, laidKinds := [.data, .data, .data, .data, .sentinel, .sentinel, .data, .pinned], laidTests := true, laidLooks := .later }
def CheckAllCardSaid : Prop := Claim7.holds Tryz.pinned (.plain (OpenSpec.ofChange checkAllSpec)) checkAllCard

/-- THE TIED CARD OF 'shipwrightlaw7.DenoOrder'. -/
def denoOrderCard : Claim7 := { stood := { row := denoOrderRow, standIns := [], harness := (true, "810d40673c877f3f7da96aca09b26ee5c5c96fb61f820891006af7f9188fa4a8"), looks := true }, kinds := [], alts := [], laidByText := true, laidKinds := [.data, .data, .data, .data, .sentinel, .sentinel, .data, .pinned], laidTests := true, laidLooks := .later }
def DenoOrderCardSaid : Prop := Claim7.holds Tryz.pinned (.plain (OpenSpec.ofChange denoOrderSpec)) denoOrderCard

/-- THE TIED CARD OF 'shipwrightlaw7.RunNames'. -/
def runNamesCard : Claim7 := { stood := { row := runNamesRow, standIns := [], harness := (true, "810d40673c877f3f7da96aca09b26ee5c5c96fb61f820891006af7f9188fa4a8"), looks := true }, kinds := [], alts := [], laidByText := true, laidKinds := [.data, .data, .data, .data, .sentinel, .sentinel, .data, .pinned], laidTests := true, laidLooks := .later }
def RunNamesCardSaid : Prop := Claim7.holds Tryz.pinned (.plain (OpenSpec.ofChange runNamesSpec)) runNamesCard

/-- THE TIED CARD OF 'shipwrightlaw7.CheckRing'. -/
def checkRingCard : Claim7 := { stood := { row := checkRingRow, standIns := [], harness := (true, "810d40673c877f3f7da96aca09b26ee5c5c96fb61f820891006af7f9188fa4a8"), looks := true }, kinds := [], alts := [], laidByText := true, laidKinds := [.data, .data, .data, .data, .sentinel, .sentinel, .data, .pinned], laidTests := true, laidLooks := .later }
def CheckRingCardSaid : Prop := Claim7.holds Tryz.pinned (.plain (OpenSpec.ofChange checkRingSpec)) checkRingCard

/-- THE TIED CARD OF 'shipwrightlaw7.DenoTurn'. -/
def denoTurnCard : Claim7 := { stood := { row := denoTurnRow, standIns := [], harness := (true, "810d40673c877f3f7da96aca09b26ee5c5c96fb61f820891006af7f9188fa4a8"), looks := true }, kinds := [], alts := [], laidByText := true, laidKinds := [.data, .data, .data, .data, .sentinel, .sentinel, .data, .pinned], laidTests := true, laidLooks := .later }
def DenoTurnCardSaid : Prop := Claim7.holds Tryz.pinned (.plain (OpenSpec.ofChange denoTurnSpec)) denoTurnCard

/-- THE SECOND FORM's CARD OF 'shipwrightlaw7.SliceTurn'. -/
def sliceTurnUptoCard : Claim7 := { stood := { row := sliceTurnUptoRow, standIns := [], harness := (true, "810d40673c877f3f7da96aca09b26ee5c5c96fb61f820891006af7f9188fa4a8"), looks := true }, kinds := [], alts := [], laidByText := true, laidKinds := [.data, .data, .data, .data, .sentinel, .sentinel, .data, .pinned], laidTests := true, laidLooks := .later }
def SliceTurnUptoCardSaid : Prop := Claim7.holds Tryz.pinned (.plain (OpenSpec.upto sliceTurnSpec)) sliceTurnUptoCard

/-- THE SECOND FORM's CARD OF 'shipwrightlaw7.RunPart'. -/
def runPartUptoCard : Claim7 := { stood := { row := runPartUptoRow, standIns := [], harness := (true, "810d40673c877f3f7da96aca09b26ee5c5c96fb61f820891006af7f9188fa4a8"), looks := true }, kinds := [], alts := [], laidByText := true, laidKinds := [.data, .data, .data, .data, .sentinel, .sentinel, .data, .pinned], laidTests := true, laidLooks := .later }
def RunPartUptoCardSaid : Prop := Claim7.holds Tryz.pinned (.plain (OpenSpec.upto runPartSpec)) runPartUptoCard

/-- THE SECOND FORM's CARD OF 'shipwrightlaw7.CheckTurn'. -/
def checkTurnUptoCard : Claim7 := { stood := { row := checkTurnUptoRow, standIns := [], harness := (true, "810d40673c877f3f7da96aca09b26ee5c5c96fb61f820891006af7f9188fa4a8"), looks := true }, kinds := [], alts := [], laidByText := true, laidKinds := [.data, .data, .data, .data, .sentinel, .sentinel, .data, .pinned], laidTests := true, laidLooks := .later }
def CheckTurnUptoCardSaid : Prop := Claim7.holds Tryz.pinned (.plain (OpenSpec.upto checkTurnSpec)) checkTurnUptoCard

/-- THE SECOND FORM's CARD OF 'shipwrightlaw7.DenoTree'. -/
def denoTreeUptoCard : Claim7 := { stood := { row := denoTreeUptoRow, standIns := [], harness := (true, "810d40673c877f3f7da96aca09b26ee5c5c96fb61f820891006af7f9188fa4a8"), looks := true }, kinds := [], alts := [], laidByText := true, laidKinds := [.data, .data, .data, .data, .sentinel, .sentinel, .data, .pinned], laidTests := true, laidLooks := .later }
def DenoTreeUptoCardSaid : Prop := Claim7.holds Tryz.pinned (.plain (OpenSpec.upto denoTreeSpec)) denoTreeUptoCard

/-- THE SECOND FORM's CARD OF 'shipwrightlaw7.CheckAll'. -/
def checkAllUptoCard : Claim7 := { stood := { row := checkAllUptoRow, standIns := [], harness := (true, "810d40673c877f3f7da96aca09b26ee5c5c96fb61f820891006af7f9188fa4a8"), looks := true }, kinds := [], alts := [], laidByText := true, laidKinds := [.data, .data, .data, .data, .sentinel, .sentinel, .data, .pinned], laidTests := true, laidLooks := .later }
def CheckAllUptoCardSaid : Prop := Claim7.holds Tryz.pinned (.plain (OpenSpec.upto checkAllSpec)) checkAllUptoCard

/-- THE SECOND FORM's CARD OF 'shipwrightlaw7.DenoOrder'. -/
def denoOrderUptoCard : Claim7 := { stood := { row := denoOrderUptoRow, standIns := [], harness := (true, "810d40673c877f3f7da96aca09b26ee5c5c96fb61f820891006af7f9188fa4a8"), looks := true }, kinds := [], alts := [], laidByText := true, laidKinds := [.data, .data, .data, .data, .sentinel, .sentinel, .data, .pinned], laidTests := true, laidLooks := .later }
def DenoOrderUptoCardSaid : Prop := Claim7.holds Tryz.pinned (.plain (OpenSpec.upto denoOrderSpec)) denoOrderUptoCard

/-- THE SECOND FORM's CARD OF 'shipwrightlaw7.RunNames'. -/
def runNamesUptoCard : Claim7 := { stood := { row := runNamesUptoRow, standIns := [], harness := (true, "810d40673c877f3f7da96aca09b26ee5c5c96fb61f820891006af7f9188fa4a8"), looks := true }, kinds := [], alts := [], laidByText := true, laidKinds := [.data, .data, .data, .data, .sentinel, .sentinel, .data, .pinned], laidTests := true, laidLooks := .later }
def RunNamesUptoCardSaid : Prop := Claim7.holds Tryz.pinned (.plain (OpenSpec.upto runNamesSpec)) runNamesUptoCard

/-- THE SECOND FORM's CARD OF 'shipwrightlaw7.CheckRing'. -/
def checkRingUptoCard : Claim7 := { stood := { row := checkRingUptoRow, standIns := [], harness := (true, "810d40673c877f3f7da96aca09b26ee5c5c96fb61f820891006af7f9188fa4a8"), looks := true }, kinds := [], alts := [], laidByText := true, laidKinds := [.data, .data, .data, .data, .sentinel, .sentinel, .data, .pinned], laidTests := true, laidLooks := .later }
def CheckRingUptoCardSaid : Prop := Claim7.holds Tryz.pinned (.plain (OpenSpec.upto checkRingSpec)) checkRingUptoCard

/-- THE SECOND FORM's CARD OF 'shipwrightlaw7.DenoTurn'. -/
def denoTurnUptoCard : Claim7 := { stood := { row := denoTurnUptoRow, standIns := [], harness := (true, "810d40673c877f3f7da96aca09b26ee5c5c96fb61f820891006af7f9188fa4a8"), looks := true }, kinds := [], alts := [], laidByText := true, laidKinds := [.data, .data, .data, .data, .sentinel, .sentinel, .data, .pinned], laidTests := true, laidLooks := .later }
def DenoTurnUptoCardSaid : Prop := Claim7.holds Tryz.pinned (.plain (OpenSpec.upto denoTurnSpec)) denoTurnUptoCard
end Rows
end Go.Proofs.YtmgcaldphpnfgaaGreatDoor
