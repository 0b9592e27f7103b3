/-
  DERIVED. GIVEN WITH THE SEED: THE CARDS: each row of YtadejeoiffaimaaDoorRows.lean that lists a variable, with what it lists TIED to the program's text (the seventh form; the later family's looks); each row that meets fmt, with fmt's text TOLD by the authors' own Lean function (tested against real Go, not proved from fmt's source: count such statements apart). THE CARD IS WHAT COUNTS. Prove the row's statement (the work); the ties are given (YtadejeoiffaimaaDoorTie.lean); close each card by the builder's one call (the guide's Derived/Test/ToyasCard.lean, 'card_holds'). Laid BY PROGRAM, IN A SANDBOX (cutbox-door.mjs). By AI agents, Wed Nov 11 2026. No macro, syntax, notation, axiom, sorry.
-/
import Derived.Test.YtadejeoiffaimaaDoorRows
import GoSem.ClaimSeven
namespace Go.Proofs.YtadejeoiffaimaaDoor
namespace Rows

/-- THE TIED CARD OF 'bourselaw08.MemoSees'. -/
def memoSeesCard : Claim7 := { stood := { row := memoSeesRow, standIns := [], harness := (true, "89e85fd84aab59d1d2be1c7c215e2ded03be4b6570e07376e4ee764b2c93f537"), looks := false }, kinds := [], alts := [], laidByText := true, laidKinds := [.data, .pinned], laidTests := true, laidLooks := .later }
def MemoSeesCardSaid : Prop := Claim7.holds Tryd.pinned (.plain (OpenSpec.ofChange memoSeesSpec)) memoSeesCard

/-- THE TIED CARD OF 'bourselaw08.MemoNil'. -/
def memoNilCard : Claim7 := { stood := { row := memoNilRow, standIns := [], harness := (true, "89e85fd84aab59d1d2be1c7c215e2ded03be4b6570e07376e4ee764b2c93f537"), looks := false }, kinds := [], alts := [], laidByText := true, laidKinds := [.data, .pinned], laidTests := true, laidLooks := .later }
def MemoNilCardSaid : Prop := Claim7.holds Tryd.pinned (.plain (OpenSpec.ofChange memoNilSpec)) memoNilCard

/-- THE SECOND FORM's CARD OF 'bourselaw08.MemoSees'. -/
def memoSeesUptoCard : Claim7 := { stood := { row := memoSeesUptoRow, standIns := [], harness := (true, "89e85fd84aab59d1d2be1c7c215e2ded03be4b6570e07376e4ee764b2c93f537"), looks := false }, kinds := [], alts := [], laidByText := true, laidKinds := [.data, .pinned], laidTests := true, laidLooks := .later }
def MemoSeesUptoCardSaid : Prop := Claim7.holds Tryd.pinned (.plain (OpenSpec.upto memoSeesSpec)) memoSeesUptoCard

/-- THE SECOND FORM's CARD OF 'bourselaw08.MemoNil'. -/
def memoNilUptoCard : Claim7 := { stood := { row := memoNilUptoRow, standIns := [], harness := (true, "89e85fd84aab59d1d2be1c7c215e2ded03be4b6570e07376e4ee764b2c93f537"), looks := false }, kinds := [], alts := [], laidByText := true, laidKinds := [.data, .pinned], laidTests := true, laidLooks := .later }
def MemoNilUptoCardSaid : Prop := Claim7.holds Tryd.pinned (.plain (OpenSpec.upto memoNilSpec)) memoNilUptoCard
end Rows
end Go.Proofs.YtadejeoiffaimaaDoor
