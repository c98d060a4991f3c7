/-
  DERIVED. GIVEN WITH THE SEED: THE CARDS: each row of YtjaojfaedikkeaaDoorRows.lean that lists a variable, with what it lists TIED to the program's text (the seventh form; the later family's looks); each row that meets fmt, with fmt's text TOLD by the authors' own Lean function (tested against real Go, not proved from fmt's source: count such statements apart). THE CARD IS WHAT COUNTS. Prove the row's statement (the work); the ties are given (YtjaojfaedikkeaaDoorTie.lean); close each card by the builder's one call (the guide's Derived/Test/ToyasCard.lean, 'card_holds'). Laid BY PROGRAM, IN A SANDBOX (cutbox-door.mjs). By AI agents, Wed Nov 11 2026. No macro, syntax, notation, axiom, sorry.
-/
import Derived.Test.YtjaojfaedikkeaaDoorRows
import GoSem.ClaimSeven
namespace Go.Proofs.YtjaojfaedikkeaaDoor
namespace Rows

/-- THE TIED CARD OF 'shipwrightlaw1.PathNorm'. -/
def pathNormCard : Claim7 := { stood := { row := pathNormRow, standIns := [], harness := (true, "43c58740e3cd0ea00c78eaa35c952181e664ebc4016f0ba8304cdccb14a2616a"), looks := true }, kinds := [], alts := [], laidByText := true, laidKinds := [.data, .data, .data, .data, .sentinel, .sentinel, .pinned], laidTests := true, laidLooks := .later }
def PathNormCardSaid : Prop := Claim7.holds Tryd.pinned (.plain (OpenSpec.ofChange pathNormSpec)) pathNormCard

/-- THE TIED CARD OF 'shipwrightlaw1.PathParts'. -/
def pathPartsCard : Claim7 := { stood := { row := pathPartsRow, standIns := [], harness := (true, "43c58740e3cd0ea00c78eaa35c952181e664ebc4016f0ba8304cdccb14a2616a"), looks := true }, kinds := [], alts := [], laidByText := true, laidKinds := [.data, .data, .data, .data, .sentinel, .sentinel, .pinned], laidTests := true, laidLooks := .later }
def PathPartsCardSaid : Prop := Claim7.holds Tryd.pinned (.plain (OpenSpec.ofChange pathPartsSpec)) pathPartsCard

/-- THE TIED CARD OF 'shipwrightlaw1.MintVals'. -/
def mintValsCard : Claim7 := { stood := { row := mintValsRow, standIns := [], harness := (true, "43c58740e3cd0ea00c78eaa35c952181e664ebc4016f0ba8304cdccb14a2616a"), looks := true }, kinds := [], alts := [], laidByText := true, laidKinds := [.data, .data, .data, .data, .sentinel, .sentinel, .pinned], laidTests := true, laidLooks := .later }
def MintValsCardSaid : Prop := Claim7.holds Tryd.pinned (.plain (OpenSpec.ofChange mintValsSpec)) mintValsCard

/-- THE TIED CARD OF 'shipwrightlaw1.TreeFull'. -/
def treeFullCard : Claim7 := { stood := { row := treeFullRow, standIns := [], harness := (true, "43c58740e3cd0ea00c78eaa35c952181e664ebc4016f0ba8304cdccb14a2616a"), looks := true }, kinds := [], alts := [], laidByText := true, laidKinds := [.data, .data, .data, .data, .sentinel, .sentinel, .pinned], laidTests := true, laidLooks := .later }
def TreeFullCardSaid : Prop := Claim7.holds Tryd.pinned (.plain (OpenSpec.ofChange treeFullSpec)) treeFullCard

/-- THE TIED CARD OF 'shipwrightlaw1.TreeKey'. -/
def treeKeyCard : Claim7 := { stood := { row := treeKeyRow, standIns := [], harness := (true, "43c58740e3cd0ea00c78eaa35c952181e664ebc4016f0ba8304cdccb14a2616a"), looks := true }, kinds := [], alts := [], laidByText := true, laidKinds := [.data, .data, .data, .data, .sentinel, .sentinel, .pinned], laidTests := true, laidLooks := .later }
def TreeKeyCardSaid : Prop := Claim7.holds Tryd.pinned (.plain (OpenSpec.ofChange treeKeySpec)) treeKeyCard

/-- THE SECOND FORM's CARD OF 'shipwrightlaw1.PathNorm'. -/
def pathNormUptoCard : Claim7 := { stood := { row := pathNormUptoRow, standIns := [], harness := (true, "43c58740e3cd0ea00c78eaa35c952181e664ebc4016f0ba8304cdccb14a2616a"), looks := true }, kinds := [], alts := [], laidByText := true, laidKinds := [.data, .data, .data, .data, .sentinel, .sentinel, .pinned], laidTests := true, laidLooks := .later }
def PathNormUptoCardSaid : Prop := Claim7.holds Tryd.pinned (.plain (OpenSpec.upto pathNormSpec)) pathNormUptoCard

/-- THE SECOND FORM's CARD OF 'shipwrightlaw1.PathParts'. -/
def pathPartsUptoCard : Claim7 := { stood := { row := pathPartsUptoRow, standIns := [], harness := (true, "43c58740e3cd0ea00c78eaa35c952181e664ebc4016f0ba8304cdccb14a2616a"), looks := true }, kinds := [], alts := [], laidByText := true, laidKinds := [.data, .data, .data, .data, .sentinel, .sentinel, .pinned], laidTests := true, laidLooks := .later }
def PathPartsUptoCardSaid : Prop := Claim7.holds Tryd.pinned (.plain (OpenSpec.upto pathPartsSpec)) pathPartsUptoCard

/-- THE SECOND FORM's CARD OF 'shipwrightlaw1.MintVals'. -/
def mintValsUptoCard : Claim7 := { stood := { row := mintValsUptoRow, standIns := [], harness := (true, "43c58740e3cd0ea00c78eaa35c952181e664ebc4016f0ba8304cdccb14a2616a"), looks := true }, kinds := [], alts := [], laidByText := true, laidKinds := [.data, .data, .data, .data, .sentinel, .sentinel, .pinned], laidTests := true, laidLooks := .later }
def MintValsUptoCardSaid : Prop := Claim7.holds Tryd.pinned (.plain (OpenSpec.upto mintValsSpec)) mintValsUptoCard

/-- THE SECOND FORM's CARD OF 'shipwrightlaw1.TreeFull'. -/
def treeFullUptoCard : Claim7 := { stood := { row := treeFullUptoRow, standIns := [], harness := (true, "43c58740e3cd0ea00c78eaa35c952181e664ebc4016f0ba8304cdccb14a2616a"), looks := true }, kinds := [], alts := [], laidByText := true, laidKinds := [.data, .data, .data, .data, .sentinel, .sentinel, .pinned], laidTests := true, laidLooks := .later }
def TreeFullUptoCardSaid : Prop := Claim7.holds Tryd.pinned (.plain (OpenSpec.upto treeFullSpec)) treeFullUptoCard

/-- THE SECOND FORM's CARD OF 'shipwrightlaw1.TreeKey'. -/
def treeKeyUptoCard : Claim7 := { stood := { row := treeKeyUptoRow, standIns := [], harness := (true, "43c58740e3cd0ea00c78eaa35c952181e664ebc4016f0ba8304cdccb14a2616a"), looks := true }, kinds := [], alts := [], laidByText := true, laidKinds := [.data, .data, .data, .data, .sentinel, .sentinel, .pinned], laidTests := true, laidLooks := .later }
def TreeKeyUptoCardSaid : Prop := Claim7.holds Tryd.pinned (.plain (OpenSpec.upto treeKeySpec)) treeKeyUptoCard
end Rows
end Go.Proofs.YtjaojfaedikkeaaDoor
