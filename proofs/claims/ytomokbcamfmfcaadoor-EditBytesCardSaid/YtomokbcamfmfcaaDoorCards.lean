/-
  DERIVED. GIVEN WITH THE SEED: THE CARDS: each row of YtomokbcamfmfcaaDoorRows.lean that lists a variable, with what it lists TIED to the program's text (the seventh form; the later family's looks); each row that meets fmt, with fmt's text TOLD by the authors' own Lean function (tested against real Go, not proved from fmt's source: count such statements apart). THE CARD IS WHAT COUNTS. Prove the row's statement (the work); the ties are given (YtomokbcamfmfcaaDoorTie.lean); close each card by the builder's one call (the guide's Derived/Test/ToyasCard.lean, 'card_holds'). Laid BY PROGRAM, IN A SANDBOX (cutbox-door.mjs). By AI agents, Wed Nov 11 2026. No macro, syntax, notation, axiom, sorry.
-/
import Derived.Test.YtomokbcamfmfcaaDoorRows
import GoSem.ClaimSeven
namespace Go.Proofs.YtomokbcamfmfcaaDoor
namespace Rows

/-- THE TIED CARD OF 'bourselaw12.EditNames'. -/
def editNamesCard : Claim7 := { stood := { row := editNamesRow, standIns := [], harness := (true, "7237acc20b07bfb32b62c2d9edc0e9385fa079b4a1db9939f80d99ee4b34e71c"), looks := true }, kinds := [], alts := [], laidByText := true, laidKinds := [.data, .data, .data, .sentinel, .sentinel], laidTests := true, laidLooks := .later }
def EditNamesCardSaid : Prop := Claim7.holds Tryd.pinned (.plain (OpenSpec.ofChange editNamesSpec)) editNamesCard

/-- THE TIED CARD OF 'bourselaw12.EditBack'. -/
def editBackCard : Claim7 := { stood := { row := editBackRow, standIns := [], harness := (true, "7237acc20b07bfb32b62c2d9edc0e9385fa079b4a1db9939f80d99ee4b34e71c"), looks := true }, kinds := [], alts := [], laidByText := true, laidKinds := [.data, .data, .data], laidTests := true, laidLooks := .later }
def EditBackCardSaid : Prop := Claim7.holds Tryd.pinned (.plain (OpenSpec.ofChange editBackSpec)) editBackCard

/-- THE TIED CARD OF 'bourselaw12.EditBytes'. -/
def editBytesCard : Claim7 := { stood := { row := editBytesRow, standIns := [], harness := (true, "7237acc20b07bfb32b62c2d9edc0e9385fa079b4a1db9939f80d99ee4b34e71c"), looks := true }, kinds := [], alts := [], laidByText := true, laidKinds := [.data, .data, .data], laidTests := true, laidLooks := .later }
def EditBytesCardSaid : Prop := Claim7.holds Tryd.pinned (.plain (OpenSpec.ofChange editBytesSpec)) editBytesCard

/-- THE SECOND FORM's CARD OF 'bourselaw12.EditNames'. -/
def editNamesUptoCard : Claim7 := { stood := { row := editNamesUptoRow, standIns := [], harness := (true, "7237acc20b07bfb32b62c2d9edc0e9385fa079b4a1db9939f80d99ee4b34e71c"), looks := true }, kinds := [], alts := [], laidByText := true, laidKinds := [.data, .data, .data, .sentinel, .sentinel], laidTests := true, laidLooks := .later }
def EditNamesUptoCardSaid : Prop := Claim7.holds Tryd.pinned (.plain (OpenSpec.upto editNamesSpec)) editNamesUptoCard

/-- THE SECOND FORM's CARD OF 'bourselaw12.EditBack'. -/
def editBackUptoCard : Claim7 := { stood := { row := editBackUptoRow, standIns := [], harness := (true, "7237acc20b07bfb32b62c2d9edc0e9385fa079b4a1db9939f80d99ee4b34e71c"), looks := true }, kinds := [], alts := [], laidByText := true, laidKinds := [.data, .data, .data], laidTests := true, laidLooks := .later }
def EditBackUptoCardSaid : Prop := Claim7.holds Tryd.pinned (.plain (OpenSpec.upto editBackSpec)) editBackUptoCard

/-- THE SECOND FORM's CARD OF 'bourselaw12.EditBytes'. -/
def editBytesUptoCard : Claim7 := { stood := { row := editBytesUptoRow, standIns := [], harness := (true, "7237acc20b07bfb32b62c2d9edc0e9385fa079b4a1db9939f80d99ee4b34e71c"), looks := true }, kinds := [], alts := [], laidByText := true, laidKinds := [.data, .data, .data], laidTests := true, laidLooks := .later }
def EditBytesUptoCardSaid : Prop := Claim7.holds Tryd.pinned (.plain (OpenSpec.upto editBytesSpec)) editBytesUptoCard
end Rows
end Go.Proofs.YtomokbcamfmfcaaDoor
