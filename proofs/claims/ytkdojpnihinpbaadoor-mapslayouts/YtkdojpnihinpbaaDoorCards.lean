/-
  DERIVED. GIVEN WITH THE SEED: THE CARDS: each row of YtkdojpnihinpbaaDoorRows.lean that lists a variable, with what it lists TIED to the program's text (the seventh form; the later family's looks); each row that meets fmt, with fmt's text TOLD by the authors' own Lean function (tested against real Go, not proved from fmt's source: count such statements apart). THE CARD IS WHAT COUNTS. Prove the row's statement (the work); the ties are given (YtkdojpnihinpbaaDoorTie.lean); close each card by the builder's one call (the guide's Derived/Test/ToyasCard.lean, 'card_holds'). Laid BY PROGRAM, IN A SANDBOX (cutbox-door.mjs). By AI agents, Wed Nov 11 2026. No macro, syntax, notation, axiom, sorry.
-/
import Derived.Test.YtkdojpnihinpbaaDoorRows
import GoSem.ClaimSeven
namespace Go.Proofs.YtkdojpnihinpbaaDoor
namespace Rows

/-- THE TIED CARD OF 'halyardlaw19.MapsLayouts'. -/
def mapsLayoutsCard : Claim7 := { stood := { row := mapsLayoutsRow, standIns := [], harness := (true, "e26c0b90797aa31e568a5ec7e72b7e082a1782d542df95e597d6a8d2de67e461"), looks := true }, kinds := [], alts := [], laidByText := true, laidKinds := [.data], laidTests := true, laidLooks := .later }
def MapsLayoutsCardSaid : Prop := Claim7.holds Tryd.pinned (.plain (OpenSpec.ofChange mapsLayoutsSpec)) mapsLayoutsCard

/-- THE TIED CARD OF 'halyardlaw19.MapsStacks'. -/
def mapsStacksCard : Claim7 := { stood := { row := mapsStacksRow, standIns := [], harness := (true, "e26c0b90797aa31e568a5ec7e72b7e082a1782d542df95e597d6a8d2de67e461"), looks := true }, kinds := [], alts := [], laidByText := true, laidKinds := [.data], laidTests := true, laidLooks := .later }
def MapsStacksCardSaid : Prop := Claim7.holds Tryd.pinned (.plain (OpenSpec.ofChange mapsStacksSpec)) mapsStacksCard

/-- THE SECOND FORM's CARD OF 'halyardlaw19.MapsLayouts'. -/
def mapsLayoutsUptoCard : Claim7 := { stood := { row := mapsLayoutsUptoRow, standIns := [], harness := (true, "e26c0b90797aa31e568a5ec7e72b7e082a1782d542df95e597d6a8d2de67e461"), looks := true }, kinds := [], alts := [], laidByText := true, laidKinds := [.data], laidTests := true, laidLooks := .later }
def MapsLayoutsUptoCardSaid : Prop := Claim7.holds Tryd.pinned (.plain (OpenSpec.upto mapsLayoutsSpec)) mapsLayoutsUptoCard

/-- THE SECOND FORM's CARD OF 'halyardlaw19.MapsStacks'. -/
def mapsStacksUptoCard : Claim7 := { stood := { row := mapsStacksUptoRow, standIns := [], harness := (true, "e26c0b90797aa31e568a5ec7e72b7e082a1782d542df95e597d6a8d2de67e461"), looks := true }, kinds := [], alts := [], laidByText := true, laidKinds := [.data], laidTests := true, laidLooks := .later }
def MapsStacksUptoCardSaid : Prop := Claim7.holds Tryd.pinned (.plain (OpenSpec.upto mapsStacksSpec)) mapsStacksUptoCard
end Rows
end Go.Proofs.YtkdojpnihinpbaaDoor
