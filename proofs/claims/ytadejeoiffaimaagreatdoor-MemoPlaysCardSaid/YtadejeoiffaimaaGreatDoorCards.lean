/-
  DERIVED. GIVEN WITH THE SEED: THE CARDS: each row of YtadejeoiffaimaaGreatDoorRows.lean that lists a variable, with what it lists TIED to the program's text (the seventh form; the later family's looks); each row that meets fmt, with fmt's text TOLD by the authors' own Lean function (tested against real Go, not proved from fmt's source: count such statements apart). THE CARD IS WHAT COUNTS. Prove the row's statement (the work); the ties are given (YtadejeoiffaimaaGreatDoorTie.lean); close each card by the builder's one call (the guide's Derived/Test/ToyasCard.lean, 'card_holds'). Laid BY PROGRAM, IN A SANDBOX (cutbox-door.mjs). By AI agents, Wed Nov 11 2026. No macro, syntax, notation, axiom, sorry.
-/
import Derived.Test.YtadejeoiffaimaaGreatDoorRows
import GoSem.ClaimSeven
namespace Go.Proofs.YtadejeoiffaimaaGreatDoor
namespace Rows

/-- THE TIED CARD OF 'bourselaw08.MemoPlays'. -/
def memoPlaysCard : Claim7 := { stood := { row := memoPlaysRow, standIns := [], harness := (true, "f250fc1d19814d597a7bd80ddbc86b7bc0e74f4dba5a7d9f648a5133629d50d8"), looks := false }, kinds := [], alts := [], laidByText := true, laidKinds := [.data, .pinned], laidTests := true, laidLooks := .later }
def MemoPlaysCardSaid : Prop := Claim7.holds Tryz.pinned (.plain (OpenSpec.ofChange memoPlaysSpec)) memoPlaysCard

/-- THE SECOND FORM's CARD OF 'bourselaw08.MemoPlays'. -/
def memoPlaysUptoCard : Claim7 := { stood := { row := memoPlaysUptoRow, standIns := [], harness := (true, "f250fc1d19814d597a7bd80ddbc86b7bc0e74f4dba5a7d9f648a5133629d50d8"), looks := false }, kinds := [], alts := [], laidByText := true, laidKinds := [.data, .pinned], laidTests := true, laidLooks := .later }
def MemoPlaysUptoCardSaid : Prop := Claim7.holds Tryz.pinned (.plain (OpenSpec.upto memoPlaysSpec)) memoPlaysUptoCard
end Rows
end Go.Proofs.YtadejeoiffaimaaGreatDoor
