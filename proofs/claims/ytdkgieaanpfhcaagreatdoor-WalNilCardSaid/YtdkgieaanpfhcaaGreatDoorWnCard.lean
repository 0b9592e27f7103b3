/-
  A world in which the variables that the row of WalNil lists lie. Conditions: as each theorem states.
-/
import Derived.Test.YtdkgieaanpfhcaaGreatDoorCards
import Derived.Test.YtdkgieaanpfhcaaGreatDoorTie
import Derived.Test.YtdkgieaanpfhcaaGreatDoorLaw
import Derived.Lay
import Derived.LaidMore
import Derived.SevenTiedAt
import Derived.Stop.Joined
import Derived.Deep.DeepHandedRow
import Derived.HandedShaped
import Derived.Test.YtdkgieaanpfhcaaGreatDoorShelf
namespace Go.Proofs.YtdkgieaanpfhcaaGreatDoor
open Go.ChangeShapes Go.WideShapes Go.ChangeAt Go.RowKit

def laidsN : List (String × DataW Unit) := Rows.walNilRow.laid
theorem laidN_shaped (os : Os) (args : Array Value) : ((World.laidAll Tryz.prog os laidsN).forCall (fun _ _ => 0) ⟨#[], args, []⟩).Shaped Tryz.prog :=
  World.shaped_of_ZipB (by kernel_rfl) (by kernel_rfl)
theorem laidN_met (os : Os) (args : Array Value) : laidMetH Tryz.prog laidsN ((World.laidAll Tryz.prog os laidsN).forCall (fun _ _ => 0) ⟨#[], args, []⟩).memory := by
  rw [MakeChecks.laidMetH_plain _ _ _ (by kernel_rfl)]
  exact laidMet_laidAll _ (by kernel_rfl) (by kernel_rfl)
end Go.Proofs.YtdkgieaanpfhcaaGreatDoor
