/-
  DERIVED. GIVEN WITH THE SEED: THE CARDS: each row of YtfkejdocklcpoaaDoorRows.lean that lists a variable, with what it lists TIED to the program's text (the seventh form; the later family's looks); each row that meets fmt, with fmt's text TOLD by the authors' own Lean function (tested against real Go, not proved from fmt's source: count such statements apart). THE CARD IS WHAT COUNTS. Prove the row's statement (the work); the ties are given (YtfkejdocklcpoaaDoorTie.lean); close each card by the builder's one call (the guide's Derived/Test/ToyasCard.lean, 'card_holds'). Laid BY PROGRAM, IN A SANDBOX (cutbox-door.mjs). By AI agents, Wed Nov 11 2026. No macro, syntax, notation, axiom, sorry.
-/
import Derived.Test.YtfkejdocklcpoaaDoorRows
import GoSem.ClaimSeven
namespace Go.Proofs.YtfkejdocklcpoaaDoor
namespace Rows

/-- THE TIED CARD OF 'halyardlaw11.VerifyChecks'. -/
def verifyChecksCard : Claim7 := { stood := { row := verifyChecksRow, standIns := [], harness := (true, "585bcf7010284ca0dbea81a132e44c7b614b9e21e4c023f6c3e70ce913edcf90"), looks := true }, kinds := [], alts := [], laidByText := true, laidKinds := [.data], laidTests := true, laidLooks := .later }
def VerifyChecksCardSaid : Prop := Claim7.holds Tryd.pinned (.plain (OpenSpec.ofChange verifyChecksSpec)) verifyChecksCard

/-- THE TIED CARD OF 'halyardlaw11.VerifyStacks'. -/
def verifyStacksCard : Claim7 := { stood := { row := verifyStacksRow, standIns := [], harness := (true, "585bcf7010284ca0dbea81a132e44c7b614b9e21e4c023f6c3e70ce913edcf90"), looks := true }, kinds := [], alts := [], laidByText := true, laidKinds := [.data], laidTests := true, laidLooks := .later }
def VerifyStacksCardSaid : Prop := Claim7.holds Tryd.pinned (.plain (OpenSpec.ofChange verifyStacksSpec)) verifyStacksCard

/-- THE TIED CARD OF 'halyardlaw11.VerifyDead'. -/
def verifyDeadCard : Claim7 := { stood := { row := verifyDeadRow, standIns := [], harness := (true, "585bcf7010284ca0dbea81a132e44c7b614b9e21e4c023f6c3e70ce913edcf90"), looks := true }, kinds := [], alts := [], laidByText := true, laidKinds := [.data], laidTests := true, laidLooks := .later }
def VerifyDeadCardSaid : Prop := Claim7.holds Tryd.pinned (.plain (OpenSpec.ofChange verifyDeadSpec)) verifyDeadCard

/-- THE TIED CARD OF 'halyardlaw11.VerifyAdds'. -/
def verifyAddsCard : Claim7 := { stood := { row := verifyAddsRow, standIns := [], harness := (true, "585bcf7010284ca0dbea81a132e44c7b614b9e21e4c023f6c3e70ce913edcf90"), looks := true }, kinds := [], alts := [], laidByText := true, laidKinds := [.data], laidTests := true, laidLooks := .later }
def VerifyAddsCardSaid : Prop := Claim7.holds Tryd.pinned (.plain (OpenSpec.ofChange verifyAddsSpec)) verifyAddsCard

/-- THE TIED CARD OF 'halyardlaw11.VerifySizes'. -/
def verifySizesCard : Claim7 := { stood := { row := verifySizesRow, standIns := [], harness := (true, "585bcf7010284ca0dbea81a132e44c7b614b9e21e4c023f6c3e70ce913edcf90"), looks := true }, kinds := [], alts := [], laidByText := true, laidKinds := [.data], laidTests := true, laidLooks := .later }
def VerifySizesCardSaid : Prop := Claim7.holds Tryd.pinned (.plain (OpenSpec.ofChange verifySizesSpec)) verifySizesCard

/-- THE SECOND FORM's CARD OF 'halyardlaw11.VerifyChecks'. -/
def verifyChecksUptoCard : Claim7 := { stood := { row := verifyChecksUptoRow, standIns := [], harness := (true, "585bcf7010284ca0dbea81a132e44c7b614b9e21e4c023f6c3e70ce913edcf90"), looks := true }, kinds := [], alts := [], laidByText := true, laidKinds := [.data], laidTests := true, laidLooks := .later }
def VerifyChecksUptoCardSaid : Prop := Claim7.holds Tryd.pinned (.plain (OpenSpec.upto verifyChecksSpec)) verifyChecksUptoCard

/-- THE SECOND FORM's CARD OF 'halyardlaw11.VerifyStacks'. -/
def verifyStacksUptoCard : Claim7 := { stood := { row := verifyStacksUptoRow, standIns := [], harness := (true, "585bcf7010284ca0dbea81a132e44c7b614b9e21e4c023f6c3e70ce913edcf90"), looks := true }, kinds := [], alts := [], laidByText := true, laidKinds := [.data], laidTests := true, laidLooks := .later }
def VerifyStacksUptoCardSaid : Prop := Claim7.holds Tryd.pinned (.plain (OpenSpec.upto verifyStacksSpec)) verifyStacksUptoCard

/-- THE SECOND FORM's CARD OF 'halyardlaw11.VerifyDead'. -/
def verifyDeadUptoCard : Claim7 := { stood := { row := verifyDeadUptoRow, standIns := [], harness := (true, "585bcf7010284ca0dbea81a132e44c7b614b9e21e4c023f6c3e70ce913edcf90"), looks := true }, kinds := [], alts := [], laidByText := true, laidKinds := [.data], laidTests := true, laidLooks := .later }
def VerifyDeadUptoCardSaid : Prop := Claim7.holds Tryd.pinned (.plain (OpenSpec.upto verifyDeadSpec)) verifyDeadUptoCard

/-- THE SECOND FORM's CARD OF 'halyardlaw11.VerifyAdds'. -/
def verifyAddsUptoCard : Claim7 := { stood := { row := verifyAddsUptoRow, standIns := [], harness := (true, "585bcf7010284ca0dbea81a132e44c7b614b9e21e4c023f6c3e70ce913edcf90"), looks := true }, kinds := [], alts := [], laidByText := true, laidKinds := [.data], laidTests := true, laidLooks := .later }
def VerifyAddsUptoCardSaid : Prop := Claim7.holds Tryd.pinned (.plain (OpenSpec.upto verifyAddsSpec)) verifyAddsUptoCard

/-- THE SECOND FORM's CARD OF 'halyardlaw11.VerifySizes'. -/
def verifySizesUptoCard : Claim7 := { stood := { row := verifySizesUptoRow, standIns := [], harness := (true, "585bcf7010284ca0dbea81a132e44c7b614b9e21e4c023f6c3e70ce913edcf90"), looks := true }, kinds := [], alts := [], laidByText := true, laidKinds := [.data], laidTests := true, laidLooks := .later }
def VerifySizesUptoCardSaid : Prop := Claim7.holds Tryd.pinned (.plain (OpenSpec.upto verifySizesSpec)) verifySizesUptoCard
end Rows
end Go.Proofs.YtfkejdocklcpoaaDoor
