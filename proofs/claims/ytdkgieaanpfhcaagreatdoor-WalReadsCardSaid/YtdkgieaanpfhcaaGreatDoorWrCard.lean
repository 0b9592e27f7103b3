/-
  A world in which the variables that the row of WalReads lists lie. Conditions: as each theorem states.
-/
import Derived.Test.YtdkgieaanpfhcaaGreatDoorCards
import Derived.Test.YtdkgieaanpfhcaaGreatDoorTie
import Derived.Test.YtdkgieaanpfhcaaGreatDoorLaw
import Derived.Lay
import Derived.LaidMore
import Derived.SevenTiedAt
import Derived.Stop.Joined
import Derived.Deep.DeepHandedRow
import Derived.HandedShaped
import Derived.Test.YtdkgieaanpfhcaaGreatDoorShelf
namespace Go.Proofs.YtdkgieaanpfhcaaGreatDoor
open Go.ChangeShapes Go.WideShapes Go.ChangeAt Go.RowKit

def laidsR : List (String × DataW Unit) := Rows.walReadsRow.laid
theorem laidR_shaped (os : Os) (args : Array Value) : ((World.laidAll Tryz.prog os laidsR).forCall (fun _ _ => 0) ⟨#[], args, []⟩).Shaped Tryz.prog :=
  World.shaped_of_ZipB (by kernel_rfl) (by kernel_rfl)
theorem laidR_met (os : Os) (args : Array Value) : laidMetH Tryz.prog laidsR ((World.laidAll Tryz.prog os laidsR).forCall (fun _ _ => 0) ⟨#[], args, []⟩).memory := by
  rw [MakeChecks.laidMetH_plain _ _ _ (by kernel_rfl)]
  exact laidMet_laidAll _ (by kernel_rfl) (by kernel_rfl)
end Go.Proofs.YtdkgieaanpfhcaaGreatDoor
