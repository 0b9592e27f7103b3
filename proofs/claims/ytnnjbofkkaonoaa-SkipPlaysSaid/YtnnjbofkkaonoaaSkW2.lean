/-
  The law SkipPlays walked where something is heavy. Conditions: as each theorem states.
-/
import Derived.Test.YtnnjbofkkaonoaaSkX
namespace Go.Proofs.Ytnnjbofkkaonoaa.Sk
open Go.RowKit Go.Shelf

set_option maxRecDepth 100000 in
set_option maxHeartbeats 1000000 in
theorem plays_out {w : World} {A : Option Addr} {c : Nat} {l : List Ac} (key : ByteArray) (mt : Nat) (RA : Hid (ARow w A l)) (hl : l.length ≤ 9223372036854775807) (hk : key.size ≤ 9223372036854775807) (hsz : ∀ p ∈ l, p.key.size ≤ 9223372036854775807 ∧ p.value.size ≤ 9223372036854775807)
    (hbad : (¬ ∀ x ∈ l, okA l.length 80 x) ∨ ((∀ x ∈ l, okA l.length 80 x) ∧ 300 < key.size)) :
    Calls Try.prog 3 #[.slice A l.length c, .string key, .int .u8 mt] w (LightW w true) := by
  have HZ := Lib.hid hsz
  clear hsz
  rcases hbad with h | ⟨h, h1⟩
  · skip
    have HO := Lib.hid h
    clear h
    go_enter Try.func3, Try.ntmps3
    go_wp2_with (first
      | (go_at_call 4; (with_reducible refine (awake_any _).mono ?_); rintro e w1 ⟨rfl, b1⟩)
      | (go_at_call 5; (with_reducible refine (light_bad (m := 80) (mi := 80) rfl (arow_on RA b1) hl (by decide) HZ.out HO.out).mono ?_); rintro e w2 ⟨rfl, b2⟩))
    go_ret
    exact ⟨rfl, b1.trans (b2.mono b1.size)⟩
  · have e3 : decide ((300 : Int) < (key.size : Int)) = true := decide_eq_true (by omega)
    have HO := Lib.hid h
    clear h
    go_enter Try.func3, Try.ntmps3
    go_wp2_with (first
      | (go_at_call 4; (with_reducible refine (awake_any _).mono ?_); rintro e w1 ⟨rfl, b1⟩)
      | (go_at_call 5; (with_reducible refine (light_all (m := 80) (mi := 80) rfl (arow_on RA b1) hl (by decide) HO.out).mono ?_); rintro e w2 ⟨rfl, b2⟩))
    go_ret
    exact ⟨rfl, b1.trans (b2.mono b1.size)⟩
end Go.Proofs.Ytnnjbofkkaonoaa.Sk
