/-
  Sums, differences, products and costs, walked: the program's. Conditions: the numbers are of 64 bits.
-/
import Derived.Test.YtckkabiafikjfaaAmMath
import Derived.Test.YtckkabiafikjfaaLaw
import Derived.WalkKit
import Derived.ProofKit
import Derived.OpenShut
import Derived.Lib.Hide
import Derived.Outline
import Derived.WalkMore
namespace Go.Proofs.Ytckkabiafikjfaa
open Go.RowKit
open Am

/-- What a call answers, two numbers; memory stays. -/
def Two (w : World) (x y : Int) (e : Ending) (w' : World) : Prop := e = .returned (.tuple #[.int .i64 x, .int .i64 y]) ∧ Below w.heap.size w w'
theorem two_mk {w w' : World} {x y x' y' : Int} (h1 : x' = x) (h2 : y' = y) (hb : Below w.heap.size w w') : Two w x y (.returned (.tuple #[.int .i64 x', .int .i64 y'])) w' := ⟨by rw [h1, h2], hb⟩

theorem add_any (a b : Int) (ha : rg a) (hb : rg b) (w : World) :
    Calls Try.prog 24 #[.int .i64 a, .int .i64 b] w (Two w (okv (a + b)) (erv (a + b))) := by
  have HA := Lib.hid ha
  have HB := Lib.hid hb
  clear ha hb
  go_enter Try.func24, Try.ntmps24
  go_wp2
  · rename_i h
    have h2 := add_bad HA.out HB.out h
    go_ret2
    exact two_mk (okv_out h2).symm (erv_out h2).symm (Below.refl _ _)
  · rename_i h
    have h2 := add_ok HA.out HB.out h
    go_ret2
    exact two_mk (by rw [okv_in h2, wrap_rg h2]) (erv_in h2).symm (Below.refl _ _)
theorem sub_any (a b : Int) (ha : rg a) (hb : rg b) (w : World) :
    Calls Try.prog 33 #[.int .i64 a, .int .i64 b] w (Two w (okv (a - b)) (erv (a - b))) := by
  have HA := Lib.hid ha
  have HB := Lib.hid hb
  clear ha hb
  go_enter Try.func33, Try.ntmps33
  go_wp2
  · rename_i h
    have h2 := sub_bad HA.out HB.out h
    go_ret2
    exact two_mk (okv_out h2).symm (erv_out h2).symm (Below.refl _ _)
  · rename_i h
    have h2 := sub_ok HA.out HB.out h
    go_ret2
    exact two_mk (by rw [okv_in h2, wrap_rg h2]) (erv_in h2).symm (Below.refl _ _)
theorem mul_any (a b : Int) (ha : rg a) (hb : rg b) (w : World) :
    Calls Try.prog 31 #[.int .i64 a, .int .i64 b] w (Two w (okv (a * b)) (erv (a * b))) := by
  have HA := Lib.hid ha
  have HB := Lib.hid hb
  clear ha hb
  by_cases h1 : a = -1
  · subst h1
    have hs := sub_any 0 b (by decide) HB.out
    rw [show (0 : Int) - b = -b by omega] at hs
    rw [show (-1 : Int) * b = -b by omega]
    have HS := Lib.hid hs
    clear hs
    go_enter Try.func31, Try.ntmps31
    go_wp2_with (go_at_call 33; refine (HS.out _).mono ?_; rintro e w1 ⟨rfl, hb1⟩)
    go_ret2
    exact two_mk rfl rfl hb1
  · by_cases h0 : a = 0
    · subst h0
      have hr : rg (0 * b) := by rw [Int.zero_mul]; decide
      go_enter Try.func31, Try.ntmps31
      go_wp2
      go_ret2
      exact two_mk (by rw [okv_in hr]; simp) (erv_in hr).symm (Below.refl _ _)
    · have HQ := Lib.hid (mul_test (b := b) HA.out h0 h1)
      go_enter Try.func31, Try.ntmps31
      go_wp2
      · rename_i h
        have h2 : ¬ rg (a * b) := fun hr => by simpa [HQ.out.2 hr] using h.2
        go_ret2
        exact two_mk (okv_out h2).symm (erv_out h2).symm (Below.refl _ _)
      · rename_i h
        have h2 : rg (a * b) := HQ.out.1 (by simpa [h0] using h)
        go_ret2
        exact two_mk (by rw [okv_in h2, wrap_rg h2]) (erv_in h2).symm (Below.refl _ _)
theorem cost_any (a b : Int) (ha : rg a) (hb : rg b) (w : World) :
    Calls Try.prog 25 #[.int .i64 a, .int .i64 b] w (Two w (cov (a * b)) (cer (a * b))) := by
  have HM := Lib.hid (mul_any a b ha hb)
  clear ha hb
  by_cases hr : rg (a * b)
  · by_cases hn : a * b < 0
    all_goals
      have ev := erv_in hr
      have ov := okv_in hr
      go_enter Try.func25, Try.ntmps25
      go_wp2_with (go_at_call 31; refine (HM.out _).mono ?_; rintro e w1 ⟨rfl, hb1⟩; rw [ev, ov])
      go_ret2
      exact two_mk (by unfold cov; simp [hr]; try omega) (by unfold cer; simp [hr, hn]) hb1
  · have ev := erv_out hr
    have ov := okv_out hr
    go_enter Try.func25, Try.ntmps25
    go_wp2_with (go_at_call 31; refine (HM.out _).mono ?_; rintro e w1 ⟨rfl, hb1⟩; rw [ev, ov])
    go_ret2
    exact two_mk (by unfold cov; simp [hr]) (by unfold cer; simp [hr]) hb1
/-- Whether a price and a size may be. -/
def rightI (p s : Int) : Int := if p < 1 ∨ 1099511627776 < p then 28 else if s < 1 ∨ 1099511627776 < s then 29 else 0
theorem right_any (a b : Int) (w : World) :
    Calls Try.prog 22 #[.int .i64 a, .int .i64 b] w fun e w' => e = .returned (.int .i64 (rightI a b)) ∧ Below w.heap.size w w' := by
  go_enter Try.func22, Try.ntmps22
  go_wp2
  all_goals
    go_ret
    refine ⟨?_, Below.refl _ _⟩
    unfold rightI
    first
      | (simp_all; done)
      | (rw [if_neg (by omega), if_neg (by omega)]; rfl)
def affI (c p : Int) : Int := if p < 1 ∨ c < p then 0 else c / p
theorem afford_any (c p : Int) (hc : rg c) (w : World) :
    Calls Try.prog 32 #[.int .i64 c, .int .i64 p] w fun e w' => e = .returned (.int .i64 (affI c p)) ∧ Below w.heap.size w w' := by
  by_cases h : p < 1 ∨ c < p
  · go_enter Try.func32, Try.ntmps32
    go_wp2
    all_goals
      go_ret
      refine ⟨?_, Below.refl _ _⟩
      unfold affI
      simp_all
  · have h1 : ¬ p < 1 := by omega
    have h2 : ¬ c < p := by omega
    have hq : c.tdiv p = c / p := Int.tdiv_eq_ediv_of_nonneg (by omega)
    have hq2 : wrap64 (c / p) = c / p := by rw [← hq]; exact wrap_rg (quot_rg hc (by omega))
    have ea : affI c p = c / p := if_neg h
    clear h
    go_enter Try.func32, Try.ntmps32
    go_wp2
    go_ret
    exact ⟨rfl, Below.refl _ _⟩
end Go.Proofs.Ytckkabiafikjfaa