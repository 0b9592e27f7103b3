/-
  The chapter's examples of order, walked: they hold. No condition.
-/
import Derived.Test.YtckkabiafikjfaaOrB
namespace Go.Proofs.Ytckkabiafikjfaa.Odx
open Go.RowKit
open Go.Proofs.Ytckkabiafikjfaa
open Am Vi

theorem awake19e_any (w : World) : Calls Try.prog 14 #[] w fun e w' => e = .returned (.bool true) ∧ Below w.heap.size w w' := by
  go_enter Try.func14, Try.ntmps14
  go_wp2_with (go_at_call 26; refine (awake19_any _).mono ?_; rintro e w1 ⟨rfl, hb⟩)
  go_ret
  exact ⟨rfl, hb⟩
theorem mb12 : mb ⟨1, 2⟩ = [2, 4] := by
  unfold mb
  rw [show zig 1 = 2 by unfold zig; decide, show zig 2 = 4 by unfold zig; decide, vnum_small (by decide), vnum_small (by decide)]; rfl
theorem awake20_any (w : World) : Calls Try.prog 5 #[] w fun e w' => e = .returned (.bool true) ∧ Below w.heap.size w w' := by
  have cM : Hid (∀ W : World, Calls Try.prog 10 #[.agg #[.int .i64 1, .int .i64 2]] W (Ans W (.string ⟨#[2, 4]⟩))) := fun W => by
    have := money_any ⟨1, 2⟩ ⟨by decide, by decide⟩ W
    rw [mb12] at this
    exact this
  have cO : Hid (∀ W : World, Calls Try.prog 13 #[.int .i64 1] W (Ans W (.int .i64 2))) := fun W => other_any 1 W
  go_enter Try.func5, Try.ntmps5
  go_wp2_with (first
    | (go_at_call 10; refine (cM.out _).mono ?_; rintro e w1 ⟨rfl, b1⟩)
    | (go_at_call 13; refine (cO.out _).mono ?_; rintro e w2 ⟨rfl, b2⟩)
    | (go_at_call 14; refine (awake19e_any _).mono ?_; rintro e w3 ⟨rfl, b3⟩))
  go_ret
  have c1 := b1.trans (b2.mono b1.size)
  exact ⟨rfl, c1.trans (b3.mono c1.size)⟩
end Go.Proofs.Ytckkabiafikjfaa.Odx
