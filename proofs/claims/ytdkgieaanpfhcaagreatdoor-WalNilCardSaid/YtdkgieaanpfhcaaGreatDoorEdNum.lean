/-
  Decimal numerals there and back: the mathematics. Conditions: as each theorem states.
-/
import Derived.Lib.ParseIntBCases
import Derived.Lib.ItoaNum
namespace Go.Proofs.YtdkgieaanpfhcaaGreatDoor.Ed
open Go.Lib

theorem dig_toNat {d : Nat} (h : d < 10) : (UInt8.ofNat (48 + d)).toNat = 48 + d := by
  rw [UInt8.toNat_ofNat']; omega
theorem pm_step {M acc d : Nat} {r : List UInt8} (hd : d < 10) (hM : M < 18446744073709551616) (hle : acc * 10 + d ≤ M) : parseUintM M acc (UInt8.ofNat (48 + d) :: r) = parseUintM M (acc * 10 + d) r := by
  rw [parseUintM, dig_toNat hd, if_pos (by omega), if_neg (by omega), if_neg (by omega)]
  rw [show 48 + d - 48 = d by omega]
theorem pm_digits {M : Nat} (hM : M < 18446744073709551616) : ∀ (u : Nat) (r : List UInt8), u ≤ M → parseUintM M 0 (decDigits u ++ r) = parseUintM M u r := by
  intro u
  induction u using Nat.strongRecOn with
  | _ u ih =>
    intro r hu
    by_cases h : u < 10
    · rw [decDigits, dif_pos h, List.singleton_append, pm_step h hM (by omega)]; simp
    · rw [decDigits, dif_neg h, List.append_assoc, ih (u / 10) (by omega) _ (by omega), List.singleton_append, pm_step (Nat.mod_lt _ (by decide)) hM (by omega)]
      rw [show u / 10 * 10 + u % 10 = u by omega]
theorem decDigits_ne (u : Nat) : decDigits u ≠ [] := by
  rw [decDigits]; split <;> simp
theorem puB_digits {u : Nat} (hu : u < 18446744073709551616) : parseUintB 64 (decDigits u) = .ok u := by
  unfold parseUintB
  rw [if_neg (decDigits_ne u)]
  have := pm_digits (M := 2 ^ 64 - 1) (by decide) u [] (by omega)
  rw [List.append_nil] at this
  rw [this, parseUintM]
theorem digits_len20 {u : Nat} (hu : u < 18446744073709551616) : (decDigits u).length ≤ 20 := by
  rw [decDigits_length]
  rcases Nat.eq_zero_or_pos u with h | h
  · subst h; rw [nDigits_small (by decide)]; decide
  · have := numDigits_eq u h hu; split at this <;> omega
end Go.Proofs.YtdkgieaanpfhcaaGreatDoor.Ed
