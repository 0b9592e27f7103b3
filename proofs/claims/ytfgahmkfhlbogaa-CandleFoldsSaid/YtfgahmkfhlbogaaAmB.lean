/-
  Sums, differences, products and costs, walked: the document's. Conditions: the numbers are of 64 bits.
-/
import Derived.Test.YtfgahmkfhlbogaaAmA
namespace Go.Proofs.Ytfgahmkfhlbogaa
open Go.RowKit
open Am

theorem radd_any (a b : Int) (ha : rg a) (hb : rg b) (w : World) :
    Calls Try.prog 25 #[.int .i64 a, .int .i64 b] w (Two w (okv (a + b)) (erv (a + b))) := by
  have HA := Lib.hid ha
  have HB := Lib.hid hb
  clear ha hb
  go_enter Try.func25, Try.ntmps25
  go_wp2
  all_goals
    first
      | (have h2 : rg (a + b) := by
           have A := HA.out
           have B := HB.out
           clear HA HB
           unfold rg at A B ⊢
           try unfold wrap64 at *
           omega
         go_ret2
         exact two_mk (by rw [okv_in h2, wrap_rg h2]) (erv_in h2).symm (Below.refl _ _))
      | (have h2 : ¬ rg (a + b) := by
           have A := HA.out
           have B := HB.out
           clear HA HB
           unfold rg at A B ⊢
           try unfold wrap64 at *
           omega
         go_ret2
         exact two_mk (okv_out h2).symm (erv_out h2).symm (Below.refl _ _))
theorem rsub_any (a b : Int) (ha : rg a) (hb : rg b) (w : World) :
    Calls Try.prog 12 #[.int .i64 a, .int .i64 b] w (Two w (okv (a - b)) (erv (a - b))) := by
  have HA := Lib.hid ha
  have HB := Lib.hid hb
  clear ha hb
  go_enter Try.func12, Try.ntmps12
  go_wp2
  all_goals
    first
      | (have h2 : rg (a - b) := by
           have A := HA.out
           have B := HB.out
           clear HA HB
           unfold rg at A B ⊢
           try unfold wrap64 at *
           omega
         go_ret2
         exact two_mk (by rw [okv_in h2, wrap_rg h2]) (erv_in h2).symm (Below.refl _ _))
      | (have h2 : ¬ rg (a - b) := by
           have A := HA.out
           have B := HB.out
           clear HA HB
           unfold rg at A B ⊢
           try unfold wrap64 at *
           omega
         go_ret2
         exact two_mk (okv_out h2).symm (erv_out h2).symm (Below.refl _ _))
theorem neg_form {x : Int} (h : x < 0) : ∃ y : Int, x = -y ∧ 1 ≤ y := ⟨-x, by omega, by omega⟩
end Go.Proofs.Ytfgahmkfhlbogaa
