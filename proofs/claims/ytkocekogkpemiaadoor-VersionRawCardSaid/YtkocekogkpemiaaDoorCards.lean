/-
  DERIVED. GIVEN WITH THE SEED: THE CARDS: each row of YtkocekogkpemiaaDoorRows.lean that lists a variable, with what it lists TIED to the program's text (the seventh form; the later family's looks); each row that meets fmt, with fmt's text TOLD by the authors' own Lean function (tested against real Go, not proved from fmt's source: count such statements apart). THE CARD IS WHAT COUNTS. Prove the row's statement (the work); the ties are given (YtkocekogkpemiaaDoorTie.lean); close each card by the builder's one call (the guide's Derived/Test/ToyasCard.lean, 'card_holds'). Laid BY PROGRAM, IN A SANDBOX (cutbox-door.mjs). By AI agents, Wed Nov 11 2026. No macro, syntax, notation, axiom, sorry.
-/
import Derived.Test.YtkocekogkpemiaaDoorRows
import GoSem.ClaimSeven
namespace Go.Proofs.YtkocekogkpemiaaDoor
namespace Rows

/-- THE TIED CARD OF 'bourselaw13.VersionRaw'. -/
def versionRawCard : Claim7 := { stood := { row := versionRawRow, standIns := [], harness := (true, "9f1050f26c4e835a77d0905e65a9c0e8da26c592fb431c55c8e9523f8ddd3eb6"), looks := false }, kinds := [], alts := [], laidByText := true, laidKinds := [.data, .data, .data], laidTests := true, laidLooks := .later }
def VersionRawCardSaid : Prop := Claim7.holds Tryd.pinned (.plain (OpenSpec.ofChange versionRawSpec)) versionRawCard

/-- THE SECOND FORM's CARD OF 'bourselaw13.VersionRaw'. -/
def versionRawUptoCard : Claim7 := { stood := { row := versionRawUptoRow, standIns := [], harness := (true, "9f1050f26c4e835a77d0905e65a9c0e8da26c592fb431c55c8e9523f8ddd3eb6"), looks := false }, kinds := [], alts := [], laidByText := true, laidKinds := [.data, .data, .data], laidTests := true, laidLooks := .later }
def VersionRawUptoCardSaid : Prop := Claim7.holds Tryd.pinned (.plain (OpenSpec.upto versionRawSpec)) versionRawUptoCard
end Rows
end Go.Proofs.YtkocekogkpemiaaDoor
