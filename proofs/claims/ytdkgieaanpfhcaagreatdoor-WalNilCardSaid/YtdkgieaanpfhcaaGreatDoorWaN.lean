/-
  A log's name: numbers below 100 as text. Conditions: as each theorem states.
-/
import Derived.Test.YtdkgieaanpfhcaaGreatDoorBaR
import Derived.Test.YtdkgieaanpfhcaaGreatDoorEdNum
import Derived.BigCall
import Derived.BigGuard
import Derived.BigQuiet
import Derived.BigRegion
import Derived.Deep.QuietTactic
import Derived.Deep.RegionHeld3
import Derived.Laws.IdiomStrings
import Derived.Laws.Rows
import Derived.Lib.AppendIntMem
import Derived.Lib.BufSteps
import Derived.Lib.Hide
import Derived.Lib.ItoaNum
import Derived.Lib.ItoaWalk
import Derived.Lib.SmallJoins
import Derived.Lib.Strings
import Derived.Maps.AppendAt
import Derived.Maps.OwnSet
import Derived.OpenShut
import Derived.Outline
import Derived.ProofKit
import Derived.ScopeJumps
import Derived.StillTailTactics
import Derived.WalkKit
import Derived.WalkMore
namespace Go.Proofs.YtdkgieaanpfhcaaGreatDoor.Ed
open Go.RowKit Go.Lib Go.Sort
open Go.Proofs.YtdkgieaanpfhcaaGreatDoor
open Vi

def SPost (w : World) (l : List UInt8) (e : Ending) (w' : World) : Prop := e = .returned (.string (bs l)) ∧ Below w.heap.size w w'
theorem fmt_small (u : Nat) (hu : u < 100) (w : World) : Calls Tryz.prog 104 #[.int .u64 u, .int .i64 10] w (SPost w (decDigits u)) := by
  go_enter Tryz.func104, Tryz.ntmps104
  go_wp2_with (go_at_call 135; refine (Tryz.internal_strconv_small u hu _).mono ?_; rintro e w' ⟨rfl, rfl⟩)
  go_ret
  exact ⟨rfl, Below.refl _ _⟩
/-- a file's name -/
def nm (kind : List UInt8) (u : Nat) : List UInt8 := (kind ++ [45]) ++ decDigits u
theorem name_small (u : Nat) (hu : u < 100) (w : World) :
    Calls Tryz.prog 34 #[.string ⟨#[108]⟩, .int .u64 u] w (SPost w (nm [108] u)) := by
  have H : Hid (Calls Tryz.prog 66 #[.int .u64 u, .int .i64 10] w (SPost w (decDigits u))) := by
    have H0 := Lib.hid (fmt_small u hu w)
    show Calls _ _ _ _ _
    go_enter Tryz.func66, Tryz.ntmps66
    go_wp2_with (go_at_call 104; (with_reducible refine H0.out.mono ?_); rintro e w' ⟨rfl, hb⟩)
    go_ret
    exact ⟨rfl, hb⟩
  have z2 : (bs (decDigits u)).size ≤ 20 := by rw [bs_size]; exact digits_len20 (by omega)
  go_enter Tryz.func34, Tryz.ntmps34
  go_wp2_with (go_at_call 66; (with_reducible refine H.out.mono ?_); rintro e w' ⟨rfl, hb⟩)
  go_ret
  refine ⟨?_, hb⟩
  unfold nm
  rw [← bs_append, ← bs_append]
  rfl
end Go.Proofs.YtdkgieaanpfhcaaGreatDoor.Ed
