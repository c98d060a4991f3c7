/-
  DERIVED. GIVEN WITH THE SEED: THE CARDS: each row of YtmpiaaangbjapaaDoorRows.lean that lists a variable, with what it lists TIED to the program's text (the seventh form; the later family's looks); each row that meets fmt, with fmt's text TOLD by the authors' own Lean function (tested against real Go, not proved from fmt's source: count such statements apart). THE CARD IS WHAT COUNTS. Prove the row's statement (the work); the ties are given (YtmpiaaangbjapaaDoorTie.lean); close each card by the builder's one call (the guide's Derived/Test/ToyasCard.lean, 'card_holds'). Laid BY PROGRAM, IN A SANDBOX (cutbox-door.mjs). By AI agents, Wed Nov 11 2026. No macro, syntax, notation, axiom, sorry.
-/
import Derived.Test.YtmpiaaangbjapaaDoorRows
import GoSem.ClaimSeven
namespace Go.Proofs.YtmpiaaangbjapaaDoor
namespace Rows

/-- THE TIED CARD OF 'shipwrightlaw1.MintUnlike'. -/
def mintUnlikeCard : Claim7 := { stood := { row := mintUnlikeRow, standIns := [], harness := (true, "ddf6fca1ee8e0c22733e9bda37edfed41a36c8f4781b623ec7eaac5ec3c6d679"), looks := true }, kinds := [], alts := [], laidByText := true, laidKinds := [.data, .data, .data, .data, .sentinel, .sentinel, .pinned], laidTests := true, laidLooks := .later }
def MintUnlikeCardSaid : Prop := Claim7.holds Tryd.pinned (.plain (OpenSpec.ofChange mintUnlikeSpec)) mintUnlikeCard

/-- THE SECOND FORM's CARD OF 'shipwrightlaw1.MintUnlike'. -/
def mintUnlikeUptoCard : Claim7 := { stood := { row := mintUnlikeUptoRow, standIns := [], harness := (true, "ddf6fca1ee8e0c22733e9bda37edfed41a36c8f4781b623ec7eaac5ec3c6d679"), looks := true }, kinds := [], alts := [], laidByText := true, laidKinds := [.data, .data, .data, .data, .sentinel, .sentinel, .pinned], laidTests := true, laidLooks := .later }
def MintUnlikeUptoCardSaid : Prop := Claim7.holds Tryd.pinned (.plain (OpenSpec.upto mintUnlikeSpec)) mintUnlikeUptoCard
end Rows
end Go.Proofs.YtmpiaaangbjapaaDoor
