/-
  DERIVED. GIVEN WITH THE SEED: THE CARDS: each row of YtkdojpnihinpbaaGreatDoorRows.lean that lists a variable, with what it lists TIED to the program's text (the seventh form; the later family's looks); each row that meets fmt, with fmt's text TOLD by the authors' own Lean function (tested against real Go, not proved from fmt's source: count such statements apart). THE CARD IS WHAT COUNTS. Prove the row's statement (the work); the ties are given (YtkdojpnihinpbaaGreatDoorTie.lean); close each card by the builder's one call (the guide's Derived/Test/ToyasCard.lean, 'card_holds'). Laid BY PROGRAM, IN A SANDBOX (cutbox-door.mjs). By AI agents, Wed Nov 11 2026. No macro, syntax, notation, axiom, sorry.
-/
import Derived.Test.YtkdojpnihinpbaaGreatDoorRows
import GoSem.ClaimSeven
namespace Go.Proofs.YtkdojpnihinpbaaGreatDoor
namespace Rows

/-- THE TIED CARD OF 'halyardlaw19.MapsOf'. -/
def mapsOfCard : Claim7 := { stood := { row := mapsOfRow, standIns := [], harness := (true, "4da531dcf5619da8f50a20c7b2e925fc9ba2a041a04fce41c62e2a29760f4ad8"), looks := true }, kinds := [], alts := [], laidByText := true, laidKinds := [.data], laidTests := true, laidLooks := .later }
def MapsOfCardSaid : Prop := Claim7.holds Tryz.pinned (.plain (OpenSpec.ofChange mapsOfSpec)) mapsOfCard

/-- THE SECOND FORM's CARD OF 'halyardlaw19.MapsOf'. -/
def mapsOfUptoCard : Claim7 := { stood := { row := mapsOfUptoRow, standIns := [], harness := (true, "4da531dcf5619da8f50a20c7b2e925fc9ba2a041a04fce41c62e2a29760f4ad8"), looks := true }, kinds := [], alts := [], laidByText := true, laidKinds := [.data], laidTests := true, laidLooks := .later }
def MapsOfUptoCardSaid : Prop := Claim7.holds Tryz.pinned (.plain (OpenSpec.upto mapsOfSpec)) mapsOfUptoCard
end Rows
end Go.Proofs.YtkdojpnihinpbaaGreatDoor
