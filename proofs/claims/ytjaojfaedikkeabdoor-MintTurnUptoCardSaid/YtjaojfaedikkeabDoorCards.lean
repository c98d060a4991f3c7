/-
  DERIVED. GIVEN WITH THE SEED: THE CARDS: each row of YtjaojfaedikkeabDoorRows.lean that lists a variable, with what it lists TIED to the program's text (the seventh form; the later family's looks); each row that meets fmt, with fmt's text TOLD by the authors' own Lean function (tested against real Go, not proved from fmt's source: count such statements apart). THE CARD IS WHAT COUNTS. Prove the row's statement (the work); the ties are given (YtjaojfaedikkeabDoorTie.lean); close each card by the builder's one call (the guide's Derived/Test/ToyasCard.lean, 'card_holds'). Laid BY PROGRAM, IN A SANDBOX (cutbox-door.mjs). By AI agents, Wed Nov 11 2026. No macro, syntax, notation, axiom, sorry.
-/
import Derived.Test.YtjaojfaedikkeabDoorRows
import GoSem.ClaimSeven
namespace Go.Proofs.YtjaojfaedikkeabDoor
namespace Rows

/-- THE TIED CARD OF 'shipwrightlaw1.TreeNone'. -/
def treeNoneCard : Claim7 := { stood := { row := treeNoneRow, standIns := [], harness := (true, "0771b38f3f99a111a1ca5f4b4ac0502f6d9ecc9b2fce4c830723b76f1cc50119"), looks := true }, kinds := [], alts := [], laidByText := true, laidKinds := [.data, .data, .data, .data, .sentinel, .sentinel, .pinned], laidTests := true, laidLooks := .later }
def TreeNoneCardSaid : Prop := Claim7.holds Tryd.pinned (.plain (OpenSpec.ofChange treeNoneSpec)) treeNoneCard

/-- THE TIED CARD OF 'shipwrightlaw1.PathJoin'. -/
def pathJoinCard : Claim7 := { stood := { row := pathJoinRow, standIns := [], harness := (true, "0771b38f3f99a111a1ca5f4b4ac0502f6d9ecc9b2fce4c830723b76f1cc50119"), looks := true }, kinds := [], alts := [], laidByText := true, laidKinds := [.data, .data, .data, .data, .sentinel, .sentinel, .pinned], laidTests := true, laidLooks := .later }
def PathJoinCardSaid : Prop := Claim7.holds Tryd.pinned (.plain (OpenSpec.ofChange pathJoinSpec)) pathJoinCard

/-- THE TIED CARD OF 'shipwrightlaw1.PathSpan'. -/
def pathSpanCard : Claim7 := { stood := { row := pathSpanRow, standIns := [], harness := (true, "0771b38f3f99a111a1ca5f4b4ac0502f6d9ecc9b2fce4c830723b76f1cc50119"), looks := true }, kinds := [], alts := [], laidByText := true, laidKinds := [.data, .data, .data, .data, .sentinel, .sentinel, .pinned], laidTests := true, laidLooks := .later }
def PathSpanCardSaid : Prop := Claim7.holds Tryd.pinned (.plain (OpenSpec.ofChange pathSpanSpec)) pathSpanCard

/-- THE TIED CARD OF 'shipwrightlaw1.MintUnlike'. -/
def mintUnlikeCard : Claim7 := { stood := { row := mintUnlikeRow, standIns := [], harness := (true, "0771b38f3f99a111a1ca5f4b4ac0502f6d9ecc9b2fce4c830723b76f1cc50119"), looks := true }, kinds := [], alts := [], laidByText := true, laidKinds := [.data, .data, .data, .data, .sentinel, .sentinel, .pinned], laidTests := true, laidLooks := .later }
def MintUnlikeCardSaid : Prop := Claim7.holds Tryd.pinned (.plain (OpenSpec.ofChange mintUnlikeSpec)) mintUnlikeCard

/-- THE TIED CARD OF 'shipwrightlaw1.MintTurn'. -/
def mintTurnCard : Claim7 := { stood := { row := mintTurnRow, standIns := [], harness := (true, "0771b38f3f99a111a1ca5f4b4ac0502f6d9ecc9b2fce4c830723b76f1cc50119"), looks := true }, kinds := [], alts := [], laidByText := true, laidKinds := [.data, .data, .data, .data, .sentinel, .sentinel, .pinned], laidTests := true, laidLooks := .later }
def MintTurnCardSaid : Prop := Claim7.holds Tryd.pinned (.plain (OpenSpec.ofChange mintTurnSpec)) mintTurnCard

/-- THE TIED CARD OF 'shipwrightlaw1.TreeOwn'. -/
def treeOwnCard : Claim7 := { stood := { row := treeOwnRow, standIns := [], harness := (true, "0771b38f3f99a111a1ca5f4b4ac0502f6d9ecc9b2fce4c830723b76f1cc50119"), looks := true }, kinds := [], alts := [], laidByText := true, laidKinds := [.data, .data, .data, .data, .sentinel, .sentinel, .pinned], laidTests := true, laidLooks := .later }
def TreeOwnCardSaid : Prop := Claim7.holds Tryd.pinned (.plain (OpenSpec.ofChange treeOwnSpec)) treeOwnCard

/-- THE SECOND FORM's CARD OF 'shipwrightlaw1.TreeNone'. -/
def treeNoneUptoCard : Claim7 := { stood := { row := treeNoneUptoRow, standIns := [], harness := (true, "0771b38f3f99a111a1ca5f4b4ac0502f6d9ecc9b2fce4c830723b76f1cc50119"), looks := true }, kinds := [], alts := [], laidByText := true, laidKinds := [.data, .data, .data, .data, .sentinel, .sentinel, .pinned], laidTests := true, laidLooks := .later }
def TreeNoneUptoCardSaid : Prop := Claim7.holds Tryd.pinned (.plain (OpenSpec.upto treeNoneSpec)) treeNoneUptoCard

/-- THE SECOND FORM's CARD OF 'shipwrightlaw1.PathJoin'. -/
def pathJoinUptoCard : Claim7 := { stood := { row := pathJoinUptoRow, standIns := [], harness := (true, "0771b38f3f99a111a1ca5f4b4ac0502f6d9ecc9b2fce4c830723b76f1cc50119"), looks := true }, kinds := [], alts := [], laidByText := true, laidKinds := [.data, .data, .data, .data, .sentinel, .sentinel, .pinned], laidTests := true, laidLooks := .later }
def PathJoinUptoCardSaid : Prop := Claim7.holds Tryd.pinned (.plain (OpenSpec.upto pathJoinSpec)) pathJoinUptoCard

/-- THE SECOND FORM's CARD OF 'shipwrightlaw1.PathSpan'. -/
def pathSpanUptoCard : Claim7 := { stood := { row := pathSpanUptoRow, standIns := [], harness := (true, "0771b38f3f99a111a1ca5f4b4ac0502f6d9ecc9b2fce4c830723b76f1cc50119"), looks := true }, kinds := [], alts := [], laidByText := true, laidKinds := [.data, .data, .data, .data, .sentinel, .sentinel, .pinned], laidTests := true, laidLooks := .later }
def PathSpanUptoCardSaid : Prop := Claim7.holds Tryd.pinned (.plain (OpenSpec.upto pathSpanSpec)) pathSpanUptoCard

/-- THE SECOND FORM's CARD OF 'shipwrightlaw1.MintUnlike'. -/
def mintUnlikeUptoCard : Claim7 := { stood := { row := mintUnlikeUptoRow, standIns := [], harness := (true, "0771b38f3f99a111a1ca5f4b4ac0502f6d9ecc9b2fce4c830723b76f1cc50119"), looks := true }, kinds := [], alts := [], laidByText := true, laidKinds := [.data, .data, .data, .data, .sentinel, .sentinel, .pinned], laidTests := true, laidLooks := .later }
def MintUnlikeUptoCardSaid : Prop := Claim7.holds Tryd.pinned (.plain (OpenSpec.upto mintUnlikeSpec)) mintUnlikeUptoCard

/-- THE SECOND FORM's CARD OF 'shipwrightlaw1.MintTurn'. -/
def mintTurnUptoCard : Claim7 := { stood := { row := mintTurnUptoRow, standIns := [], harness := (true, "0771b38f3f99a111a1ca5f4b4ac0502f6d9ecc9b2fce4c830723b76f1cc50119"), looks := true }, kinds := [], alts := [], laidByText := true, laidKinds := [.data, .data, .data, .data, .sentinel, .sentinel, .pinned], laidTests := true, laidLooks := .later }
def MintTurnUptoCardSaid : Prop := Claim7.holds Tryd.pinned (.plain (OpenSpec.upto mintTurnSpec)) mintTurnUptoCard

/-- THE SECOND FORM's CARD OF 'shipwrightlaw1.TreeOwn'. -/
def treeOwnUptoCard : Claim7 := { stood := { row := treeOwnUptoRow, standIns := [], harness := (true, "0771b38f3f99a111a1ca5f4b4ac0502f6d9ecc9b2fce4c830723b76f1cc50119"), looks := true }, kinds := [], alts := [], laidByText := true, laidKinds := [.data, .data, .data, .data, .sentinel, .sentinel, .pinned], laidTests := true, laidLooks := .later }
def TreeOwnUptoCardSaid : Prop := Claim7.holds Tryd.pinned (.plain (OpenSpec.upto treeOwnSpec)) treeOwnUptoCard
end Rows
end Go.Proofs.YtjaojfaedikkeabDoor
