/-
  Sums, differences, products and costs, walked: the program's. Conditions: the numbers are of 64 bits.
-/
import Derived.Test.YtfgahmkfhlbogaaAmMath
import Derived.Test.YtfgahmkfhlbogaaLaw
import Derived.WalkKit
import Derived.ProofKit
import Derived.OpenShut
import Derived.Lib.Hide
import Derived.Outline
import Derived.WalkMore
namespace Go.Proofs.Ytfgahmkfhlbogaa
open Go.RowKit
open Am

/-- What a call answers, two numbers; memory stays. -/
def Two (w : World) (x y : Int) (e : Ending) (w' : World) : Prop := e = .returned (.tuple #[.int .i64 x, .int .i64 y]) ∧ Below w.heap.size w w'
theorem two_mk {w w' : World} {x y x' y' : Int} (h1 : x' = x) (h2 : y' = y) (hb : Below w.heap.size w w') : Two w x y (.returned (.tuple #[.int .i64 x', .int .i64 y'])) w' := ⟨by rw [h1, h2], hb⟩

theorem add_any (a b : Int) (ha : rg a) (hb : rg b) (w : World) :
    Calls Try.prog 31 #[.int .i64 a, .int .i64 b] w (Two w (okv (a + b)) (erv (a + b))) := by
  have HA := Lib.hid ha
  have HB := Lib.hid hb
  clear ha hb
  go_enter Try.func31, Try.ntmps31
  go_wp2
  · rename_i h
    have h2 := add_bad HA.out HB.out h
    go_ret2
    exact two_mk (okv_out h2).symm (erv_out h2).symm (Below.refl _ _)
  · rename_i h
    have h2 := add_ok HA.out HB.out h
    go_ret2
    exact two_mk (by rw [okv_in h2, wrap_rg h2]) (erv_in h2).symm (Below.refl _ _)
theorem sub_any (a b : Int) (ha : rg a) (hb : rg b) (w : World) :
    Calls Try.prog 21 #[.int .i64 a, .int .i64 b] w (Two w (okv (a - b)) (erv (a - b))) := by
  have HA := Lib.hid ha
  have HB := Lib.hid hb
  clear ha hb
  go_enter Try.func21, Try.ntmps21
  go_wp2
  · rename_i h
    have h2 := sub_bad HA.out HB.out h
    go_ret2
    exact two_mk (okv_out h2).symm (erv_out h2).symm (Below.refl _ _)
  · rename_i h
    have h2 := sub_ok HA.out HB.out h
    go_ret2
    exact two_mk (by rw [okv_in h2, wrap_rg h2]) (erv_in h2).symm (Below.refl _ _)
/-- Whether a price and a size may be. -/
def rightI (p s : Int) : Int := if p < 1 ∨ 1099511627776 < p then 28 else if s < 1 ∨ 1099511627776 < s then 29 else 0
def affI (c p : Int) : Int := if p < 1 ∨ c < p then 0 else c / p
end Go.Proofs.Ytfgahmkfhlbogaa