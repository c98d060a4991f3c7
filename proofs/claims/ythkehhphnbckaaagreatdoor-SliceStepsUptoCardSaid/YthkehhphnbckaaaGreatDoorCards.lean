/-
  DERIVED. GIVEN WITH THE SEED: THE CARDS: each row of YthkehhphnbckaaaGreatDoorRows.lean that lists a variable, with what it lists TIED to the program's text (the seventh form; the later family's looks); each row that meets fmt, with fmt's text TOLD by the authors' own Lean function (tested against real Go, not proved from fmt's source: count such statements apart). THE CARD IS WHAT COUNTS. Prove the row's statement (the work); the ties are given (YthkehhphnbckaaaGreatDoorTie.lean); close each card by the builder's one call (the guide's Derived/Test/ToyasCard.lean, 'card_holds'). Laid BY PROGRAM, IN A SANDBOX (cutbox-door.mjs). By AI agents, Wed Nov 11 2026. No macro, syntax, notation, axiom, sorry.
-/
import Derived.Test.YthkehhphnbckaaaGreatDoorRows
import GoSem.ClaimSeven
namespace Go.Proofs.YthkehhphnbckaaaGreatDoor
namespace Rows

/-- THE TIED CARD OF 'shipwrightlaw7.StepLaws'. -/
def stepLawsCard : Claim7 := { stood := { row := stepLawsRow, standIns := [], harness := (true, "296be481e01838bc3b7d73eec153b2edc3d6e598e4651ffeb3fb4441811a393c"), looks := true }, kinds := [], alts := [], laidByText := true, laidKinds := [.data, .data, .data, .data, .sentinel, .sentinel, .data, .pinned], laidTests := true, laidLooks := .later }
def StepLawsCardSaid : Prop := Claim7.holds Tryz.pinned (.plain (OpenSpec.ofChange stepLawsSpec)) stepLawsCard

/-- THE TIED CARD OF 'shipwrightlaw7.CheckRule'. -/
def checkRuleCard : Claim7 := { stood := { row := checkRuleRow, standIns := [], harness := (true, "296be481e01838bc3b7d73eec153b2edc3d6e598e4651ffeb3fb4441811a393c"), looks := true }, kinds := [], alts := [], laidByText := true, laidKinds := [.data, .data, .data, .data, .sentinel, .sentinel, .data, .pinned], laidTests := true, laidLooks := .later }
def CheckRuleCardSaid : Prop := Claim7.holds Tryz.pinned (.plain (OpenSpec.ofChange checkRuleSpec)) checkRuleCard

/-- THE TIED CARD OF 'shipwrightlaw7.StepFail'. -/
def stepFailCard : Claim7 := { stood := { row := stepFailRow, standIns := [], harness := (true, "296be481e01838bc3b7d73eec153b2edc3d6e598e4651ffeb3fb4441811a393c"), looks := true }, kinds := [], alts := [], laidByText := true, laidKinds := [.data, .data, .data, .data, .sentinel, .sentinel, .data, .pinned], laidTests := true, laidLooks := .later }
def StepFailCardSaid : Prop := Claim7.holds Tryz.pinned (.plain (OpenSpec.ofChange stepFailSpec)) stepFailCard

/-- THE TIED CARD OF 'shipwrightlaw7.SliceSteps'. -/
def sliceStepsCard : Claim7 := { stood := { row := sliceStepsRow, standIns := [], harness := (true, "296be481e01838bc3b7d73eec153b2edc3d6e598e4651ffeb3fb4441811a393c"), looks := true }, kinds := [], alts := [], laidByText := true, laidKinds := [.data, .data, .data, .data, .sentinel, .sentinel, .data, .pinned], laidTests := true, laidLooks := .later }
def SliceStepsCardSaid : Prop := Claim7.holds Tryz.pinned (.plain (OpenSpec.ofChange sliceStepsSpec)) sliceStepsCard

/-- THE TIED CARD OF 'shipwrightlaw7.CheckLess'. -/
def checkLessCard : Claim7 := { stood := { row := checkLessRow, standIns := [], harness := (true, "296be481e01838bc3b7d73eec153b2edc3d6e598e4651ffeb3fb4441811a393c"), looks := true }, kinds := [], alts := [], laidByText := true, laidKinds := [.data, .data, .data, .data, .sentinel, .sentinel, .data, .pinned], laidTests := true, laidLooks := .later }
def CheckLessCardSaid : Prop := Claim7.holds Tryz.pinned (.plain (OpenSpec.ofChange checkLessSpec)) checkLessCard

/-- THE TIED CARD OF 'shipwrightlaw7.CheckOrder'. -/
def checkOrderCard : Claim7 := { stood := { row := checkOrderRow, standIns := [], harness := (true, "296be481e01838bc3b7d73eec153b2edc3d6e598e4651ffeb3fb4441811a393c"), looks := true }, kinds := [], alts := [], laidByText := true, laidKinds := [.data, .data, .data, .data, .sentinel, .sentinel, .data, .pinned], laidTests := true, laidLooks := .later }
def CheckOrderCardSaid : Prop := Claim7.holds Tryz.pinned (.plain (OpenSpec.ofChange checkOrderSpec)) checkOrderCard

/-- THE TIED CARD OF 'shipwrightlaw7.CheckMany'. -/
def checkManyCard : Claim7 := { stood := { row := checkManyRow, standIns := [], harness := (true, "296be481e01838bc3b7d73eec153b2edc3d6e598e4651ffeb3fb4441811a393c"), looks := true }, kinds := [], alts := [], laidByText := true, laidKinds := [.data, .data, .data, .data, .sentinel, .sentinel, .data, .pinned], laidTests := true, laidLooks := .later }
def CheckManyCardSaid : Prop := Claim7.holds Tryz.pinned (.plain (OpenSpec.ofChange checkManySpec)) checkManyCard

/-- THE SECOND FORM's CARD OF 'shipwrightlaw7.StepLaws'. -/
def stepLawsUptoCard : Claim7 := { stood := { row := stepLawsUptoRow, standIns := [], harness := (true, "296be481e01838bc3b7d73eec153b2edc3d6e598e4651ffeb3fb4441811a393c"), looks := true }, kinds := [], alts := [], laidByText := true, laidKinds := [.data, .data, .data, .data, .sentinel, .sentinel, .data, .pinned], laidTests := true, laidLooks := .later }
def StepLawsUptoCardSaid : Prop := Claim7.holds Tryz.pinned (.plain (OpenSpec.upto stepLawsSpec)) stepLawsUptoCard

/-- THE SECOND FORM's CARD OF 'shipwrightlaw7.CheckRule'. -/
def checkRuleUptoCard : Claim7 := { stood := { row := checkRuleUptoRow, standIns := [], harness := (true, "296be481e01838bc3b7d73eec153b2edc3d6e598e4651ffeb3fb4441811a393c"), looks := true }, kinds := [], alts := [], laidByText := true, laidKinds := [.data, .data, .data, .data, .sentinel, .sentinel, .data, .pinned], laidTests := true, laidLooks := .later }
def CheckRuleUptoCardSaid : Prop := Claim7.holds Tryz.pinned (.plain (OpenSpec.upto checkRuleSpec)) checkRuleUptoCard

/-- THE SECOND FORM's CARD OF 'shipwrightlaw7.StepFail'. -/
def stepFailUptoCard : Claim7 := { stood := { row := stepFailUptoRow, standIns := [], harness := (true, "296be481e01838bc3b7d73eec153b2edc3d6e598e4651ffeb3fb4441811a393c"), looks := true }, kinds := [], alts := [], laidByText := true, laidKinds := [.data, .data, .data, .data, .sentinel, .sentinel, .data, .pinned], laidTests := true, laidLooks := .later }
def StepFailUptoCardSaid : Prop := Claim7.holds Tryz.pinned (.plain (OpenSpec.upto stepFailSpec)) stepFailUptoCard

/-- THE SECOND FORM's CARD OF 'shipwrightlaw7.SliceSteps'. -/
def sliceStepsUptoCard : Claim7 := { stood := { row := sliceStepsUptoRow, standIns := [], harness := (true, "296be481e01838bc3b7d73eec153b2edc3d6e598e4651ffeb3fb4441811a393c"), looks := true }, kinds := [], alts := [], laidByText := true, laidKinds := [.data, .data, .data, .data, .sentinel, .sentinel, .data, .pinned], laidTests := true, laidLooks := .later }
def SliceStepsUptoCardSaid : Prop := Claim7.holds Tryz.pinned (.plain (OpenSpec.upto sliceStepsSpec)) sliceStepsUptoCard

/-- THE SECOND FORM's CARD OF 'shipwrightlaw7.CheckLess'. -/
def checkLessUptoCard : Claim7 := { stood := { row := checkLessUptoRow, standIns := [], harness := (true, "296be481e01838bc3b7d73eec153b2edc3d6e598e4651ffeb3fb4441811a393c"), looks := true }, kinds := [], alts := [], laidByText := true, laidKinds := [.data, .data, .data, .data, .sentinel, .sentinel, .data, .pinned], laidTests := true, laidLooks := .later }
def CheckLessUptoCardSaid : Prop := Claim7.holds Tryz.pinned (.plain (OpenSpec.upto checkLessSpec)) checkLessUptoCard

/-- THE SECOND FORM's CARD OF 'shipwrightlaw7.CheckOrder'. -/
def checkOrderUptoCard : Claim7 := { stood := { row := checkOrderUptoRow, standIns := [], harness := (true, "296be481e01838bc3b7d73eec153b2edc3d6e598e4651ffeb3fb4441811a393c"), looks := true }, kinds := [], alts := [], laidByText := true, laidKinds := [.data, .data, .data, .data, .sentinel, .sentinel, .data, .pinned], laidTests := true, laidLooks := .later }
def CheckOrderUptoCardSaid : Prop := Claim7.holds Tryz.pinned (.plain (OpenSpec.upto checkOrderSpec)) checkOrderUptoCard

/-- THE SECOND FORM's CARD OF 'shipwrightlaw7.CheckMany'. -/
def checkManyUptoCard : Claim7 := { stood := { row := checkManyUptoRow, standIns := [], harness := (true, "296be481e01838bc3b7d73eec153b2edc3d6e598e4651ffeb3fb4441811a393c"), looks := true }, kinds := [], alts := [], laidByText := true, laidKinds := [.data, .data, .data, .data, .sentinel, .sentinel, .data, .pinned], laidTests := true, laidLooks := .later }
def CheckManyUptoCardSaid : Prop := Claim7.holds Tryz.pinned (.plain (OpenSpec.upto checkManySpec)) checkManyUptoCard
end Rows
end Go.Proofs.YthkehhphnbckaaaGreatDoor
