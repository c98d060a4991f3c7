/-
  DERIVED. GIVEN WITH THE SEED: THE CARDS: each row of YtdkainiiinjgmaaGreatDoorRows.lean that lists a variable, with what it lists TIED to the program's text (the seventh form; the later family's looks); each row that meets fmt, with fmt's text TOLD by the authors' own Lean function (tested against real Go, not proved from fmt's source: count such statements apart). THE CARD IS WHAT COUNTS. Prove the row's statement (the work); the ties are given (YtdkainiiinjgmaaGreatDoorTie.lean); close each card by the builder's one call (the guide's Derived/Test/ToyasCard.lean, 'card_holds'). Laid BY PROGRAM, IN A SANDBOX (cutbox-door.mjs). By AI agents, Wed Nov 11 2026. No macro, syntax, notation, axiom, sorry.
-/
import Derived.Test.YtdkainiiinjgmaaGreatDoorRows
import GoSem.ClaimSeven
namespace Go.Proofs.YtdkainiiinjgmaaGreatDoor
namespace Rows

/-- THE TIED CARD OF 'shipwrightlaw12.LabelsLaws'. -/
def labelsLawsCard : Claim7 := { stood := { row := labelsLawsRow, standIns := [], harness := (true, "b5092c9db8847515844e513988d73deeeaf51e90b0563f2f7cf1db8e94b1864d"), looks := true }, kinds := [], alts := [], laidByText := true, laidKinds := [.data, .data, .data, .data, .sentinel, .sentinel, .data, .pinned], laidTests := true, laidLooks := .later }
def LabelsLawsCardSaid : Prop := Claim7.holds Tryz.pinned (.plain (OpenSpec.ofChange labelsLawsSpec)) labelsLawsCard

/-- THE TIED CARD OF 'shipwrightlaw12.LabelsOwn'. -/
def labelsOwnCard : Claim7 := { stood := { row := labelsOwnRow, standIns := [], harness := (true, "b5092c9db8847515844e513988d73deeeaf51e90b0563f2f7cf1db8e94b1864d"), looks := true }, kinds := [], alts := [], laidByText := true, laidKinds := [.data, .data, .data, .data, .sentinel, .sentinel, .data, .pinned], laidTests := true, laidLooks := .later }
def LabelsOwnCardSaid : Prop := Claim7.holds Tryz.pinned (.plain (OpenSpec.ofChange labelsOwnSpec)) labelsOwnCard

/-- THE TIED CARD OF 'shipwrightlaw12.LabelsAll'. -/
def labelsAllCard : Claim7 := { stood := { row := labelsAllRow, standIns := [], harness := (true, "b5092c9db8847515844e513988d73deeeaf51e90b0563f2f7cf1db8e94b1864d"), looks := true }, kinds := [], alts := [], laidByText := true, laidKinds := [.data, .data, .data, .data, .sentinel, .sentinel, .data, .pinned], laidTests := true, laidLooks := .later }
def LabelsAllCardSaid : Prop := Claim7.holds Tryz.pinned (.plain (OpenSpec.ofChange labelsAllSpec)) labelsAllCard

/-- THE TIED CARD OF 'shipwrightlaw12.SpanChain'. -/
def spanChainCard : Claim7 := { stood := { row := spanChainRow, standIns := [], harness := (true, "b5092c9db8847515844e513988d73deeeaf51e90b0563f2f7cf1db8e94b1864d"), looks := true }, kinds := [], alts := [], laidByText := true, laidKinds := [.data, .data, .data, .data, .sentinel, .sentinel, .data, .pinned], laidTests := true, laidLooks := .later }
def SpanChainCardSaid : Prop := Claim7.holds Tryz.pinned (.plain (OpenSpec.ofChange spanChainSpec)) spanChainCard

/-- THE TIED CARD OF 'shipwrightlaw7.RunNames'. -/
def runNamesCard : Claim7 := { stood := { row := runNamesRow, standIns := [], harness := (true, "b5092c9db8847515844e513988d73deeeaf51e90b0563f2f7cf1db8e94b1864d"), looks := true }, kinds := [], alts := [], laidByText := true, laidKinds := [.data, .data, .data, .data, .sentinel, .sentinel, .data, .pinned], laidTests := true, laidLooks := .later }
def RunNamesCardSaid : Prop := Claim7.holds Tryz.pinned (.plain (OpenSpec.ofChange runNamesSpec)) runNamesCard

/-- THE SECOND FORM's CARD OF 'shipwrightlaw12.LabelsLaws'. -/
def labelsLawsUptoCard : Claim7 := { stood := { row := labelsLawsUptoRow, standIns := [], harness := (true, "b5092c9db8847515844e513988d73deeeaf51e90b0563f2f7cf1db8e94b1864d"), looks := true }, kinds := [], alts := [], laidByText := true, laidKinds := [.data, .data, .data, .data, .sentinel, .sentinel, .data, .pinned], laidTests := true, laidLooks := .later }
def LabelsLawsUptoCardSaid : Prop := Claim7.holds Tryz.pinned (.plain (OpenSpec.upto labelsLawsSpec)) labelsLawsUptoCard

/-- THE SECOND FORM's CARD OF 'shipwrightlaw12.LabelsOwn'. -/
def labelsOwnUptoCard : Claim7 := { stood := { row := labelsOwnUptoRow, standIns := [], harness := (true, "b5092c9db8847515844e513988d73deeeaf51e90b0563f2f7cf1db8e94b1864d"), looks := true }, kinds := [], alts := [], laidByText := true, laidKinds := [.data, .data, .data, .data, .sentinel, .sentinel, .data, .pinned], laidTests := true, laidLooks := .later }
def LabelsOwnUptoCardSaid : Prop := Claim7.holds Tryz.pinned (.plain (OpenSpec.upto labelsOwnSpec)) labelsOwnUptoCard

/-- THE SECOND FORM's CARD OF 'shipwrightlaw12.LabelsAll'. -/
def labelsAllUptoCard : Claim7 := { stood := { row := labelsAllUptoRow, standIns := [], harness := (true, "b5092c9db8847515844e513988d73deeeaf51e90b0563f2f7cf1db8e94b1864d"), looks := true }, kinds := [], alts := [], laidByText := true, laidKinds := [.data, .data, .data, .data, .sentinel, .sentinel, .data, .pinned], laidTests := true, laidLooks := .later }
def LabelsAllUptoCardSaid : Prop := Claim7.holds Tryz.pinned (.plain (OpenSpec.upto labelsAllSpec)) labelsAllUptoCard

/-- THE SECOND FORM's CARD OF 'shipwrightlaw12.SpanChain'. -/
def spanChainUptoCard : Claim7 := { stood := { row := spanChainUptoRow, standIns := [], harness := (true, "b5092c9db8847515844e513988d73deeeaf51e90b0563f2f7cf1db8e94b1864d"), looks := true }, kinds := [], alts := [], laidByText := true, laidKinds := [.data, .data, .data, .data, .sentinel, .sentinel, .data, .pinned], laidTests := true, laidLooks := .later }
def SpanChainUptoCardSaid : Prop := Claim7.holds Tryz.pinned (.plain (OpenSpec.upto spanChainSpec)) spanChainUptoCard

/-- THE SECOND FORM's CARD OF 'shipwrightlaw7.RunNames'. -/
def runNamesUptoCard : Claim7 := { stood := { row := runNamesUptoRow, standIns := [], harness := (true, "b5092c9db8847515844e513988d73deeeaf51e90b0563f2f7cf1db8e94b1864d"), looks := true }, kinds := [], alts := [], laidByText := true, laidKinds := [.data, .data, .data, .data, .sentinel, .sentinel, .data, .pinned], laidTests := true, laidLooks := .later }
def RunNamesUptoCardSaid : Prop := Claim7.holds Tryz.pinned (.plain (OpenSpec.upto runNamesSpec)) runNamesUptoCard
end Rows
end Go.Proofs.YtdkainiiinjgmaaGreatDoor
