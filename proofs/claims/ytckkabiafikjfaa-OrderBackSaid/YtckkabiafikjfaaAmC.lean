/-
  The chapter's examples of amount, walked: they hold. No condition.
-/
import Derived.Test.YtckkabiafikjfaaAmA
namespace Go.Proofs.Ytckkabiafikjfaa
open Go.RowKit
open Am

theorem step_below {B : Nat} {w w1 w2 : World} (h : Below B w w1) (h2 : Below w1.heap.size w1 w2) (hB : B ≤ w1.heap.size) : Below B w w2 := h.trans (h2.mono hB)
theorem awake19_any (w : World) : Calls Try.prog 26 #[] w fun e w' => e = .returned (.bool true) ∧ Below w.heap.size w w' := by
  have cM : Hid (∀ W : World, Calls Try.prog 31 #[.int .i64 1099511627776, .int .i64 1099511627776] W (Two W 0 24)) := fun W => by
    have := mul_any 1099511627776 1099511627776 (by decide) (by decide) W
    rw [okv_out (by decide), erv_out (by decide)] at this
    exact this
  have cA : Hid (∀ W : World, Calls Try.prog 24 #[.int .i64 2, .int .i64 3] W (Two W 5 0)) := fun W => by
    have := add_any 2 3 (by decide) (by decide) W
    rw [okv_in (by decide), erv_in (by decide)] at this
    exact this
  have cF : Hid (∀ W : World, Calls Try.prog 32 #[.int .i64 10, .int .i64 3] W fun e w' => e = .returned (.int .i64 3) ∧ Below W.heap.size W w') := fun W => by
    have := afford_any 10 3 (by decide) W
    rw [show affI 10 3 = 3 by unfold affI; decide] at this
    exact this
  go_enter Try.func26, Try.ntmps26
  go_wp2_with (first
    | (go_at_call 31; refine (cM.out _).mono ?_; rintro e w1 ⟨rfl, b1⟩)
    | (go_at_call 24; refine (cA.out _).mono ?_; rintro e w2 ⟨rfl, b2⟩)
    | (go_at_call 32; refine (cF.out _).mono ?_; rintro e w3 ⟨rfl, b3⟩))
  go_ret
  have c1 := b1.trans (b2.mono b1.size)
  exact ⟨rfl, c1.trans (b3.mono c1.size)⟩
end Go.Proofs.Ytckkabiafikjfaa
