/-
  The Go text of filters, walked: how many bits, a place's bit, a key's places. Conditions: as each theorem states.
-/
import Derived.Test.YtmgfgododhplpaaCrD
import Derived.Test.YtmgfgododhplpaaBlMath
import Derived.IntWalk
namespace Go.Proofs.Ytmgfgododhplpaa.Bl
open Go.RowKit
open Crc (ret_int val_int)

theorem bits_any (n : Nat) (hn : n ≤ 1000000000) (w : World) :
    Calls Try.prog 11 #[.int .i64 n] w fun e w' => e = .returned (.int .i64 (bitsOf n)) ∧ w = w' := by
  by_cases h : n ≤ 6
  · go_enter Try.func11, Try.ntmps11
    go_wp2
    all_goals
      go_ret
      exact ⟨ret_int (by unfold bitsOf; omega), rfl⟩
  · go_enter Try.func11, Try.ntmps11
    go_wp2
    all_goals
      go_ret
      exact ⟨ret_int (by unfold bitsOf; omega), rfl⟩

theorem bit_any (p : Nat) (hp : p ≤ 9000000000000000000) (w : World) :
    Calls Try.prog 17 #[.int .i64 p] w fun e w' => e = .returned (.int .u8 (bitN p)) ∧ w = w' := by
  have h8 : p % 8 = 0 ∨ p % 8 = 1 ∨ p % 8 = 2 ∨ p % 8 = 3 ∨ p % 8 = 4 ∨ p % 8 = 5 ∨ p % 8 = 6 ∨ p % 8 = 7 := by omega
  rcases h8 with h | h | h | h | h | h | h | h
  all_goals
    have hb : (p : Int) % 8 = ((p % 8 : Nat) : Int) := by omega
    have H := Lib.hid h
    rw [h] at hb
    clear h
    go_enter Try.func17, Try.ntmps17
    go_wp2
    go_ret
    exact ⟨ret_int (by unfold bitN; rw [H.out]; rfl), rfl⟩
end Go.Proofs.Ytmgfgododhplpaa.Bl
