/-
  The document's own keys: the mathematics of what its Go text does. Conditions: as each theorem states.
-/
import Derived.Test.YtelbhegkaihjhaaDoorKyL
namespace Go.Proofs.YtelbhegkaihjhaaDoor
open Go.RowKit
open Vi

/-- eight bytes, the highest first: the number of those ahead of the j-th -/
def numTo (l : List UInt8) (j : Nat) : Nat := big (l.take j).reverse
theorem numTo_zero (l : List UInt8) : numTo l 0 = 0 := by unfold numTo; rw [List.take_zero, List.reverse_nil, big_nil]
theorem numTo_on {l : List UInt8} {j : Nat} (h : j < l.length) : numTo l (j + 1) = numTo l j * 256 + l[j].toNat := by
  unfold numTo
  rw [List.take_succ_eq_append_getElem h, List.reverse_append, List.reverse_singleton, List.singleton_append, big_cons]; omega
theorem numTo_lt {l : List UInt8} {j : Nat} (h : j ≤ 8) : numTo l j < 18446744073709551616 := by
  have h1 := big_lt (l.take j).reverse
  have h2 : (l.take j).reverse.length ≤ 8 := by rw [List.length_reverse, List.length_take]; omega
  have h3 : 256 ^ (l.take j).reverse.length ≤ 256 ^ 8 := Nat.pow_le_pow_right (by decide) h2
  unfold numTo; omega
theorem numTo_small {l : List UInt8} {j : Nat} (h : j ≤ 7) : numTo l j < 72057594037927936 := by
  have h1 := big_lt (l.take j).reverse
  have h2 : (l.take j).reverse.length ≤ 7 := by rw [List.length_reverse, List.length_take]; omega
  have h3 : 256 ^ (l.take j).reverse.length ≤ 256 ^ 7 := Nat.pow_le_pow_right (by decide) h2
  unfold numTo; omega
theorem numTo_be8 {l : List UInt8} (h : 8 ≤ l.length) : numTo l 8 = be8 l := by
  unfold numTo be8 rev8
  have e : (l.take 8).length = 8 := by rw [List.length_take]; omega
  have := little_big (l.take 8)
  rw [e] at this
  rw [this]
/-- the digits of a number, the lowest first -/
def dgt (n j : Nat) : Nat := n / 256 ^ j % 256
def dcell (n k j : Nat) : Value := .int .u8 (if k < j then (dgt n k : Int) else 0)
theorem big8_digits (n : Nat) : big8 n = [UInt8.ofNat (dgt n 7), UInt8.ofNat (dgt n 6), UInt8.ofNat (dgt n 5), UInt8.ofNat (dgt n 4), UInt8.ofNat (dgt n 3), UInt8.ofNat (dgt n 2), UInt8.ofNat (dgt n 1), UInt8.ofNat (dgt n 0)] := by
  unfold big8 dgt
  simp only [little_snoc, little_zero, List.nil_append, List.reverse_cons, List.reverse_nil, List.cons_append]
theorem esc_append : ∀ a b : List UInt8, esc (a ++ b) = esc a ++ esc b
  | [], b => rfl
  | c :: a, b => by
    rw [List.cons_append, esc, esc, esc_append a b]
    split <;> simp
theorem esc_zero : esc [0] = [0, 255] := rfl
theorem esc_other {c : UInt8} (h : ¬ c = 0) : esc [c] = [c] := by rw [esc, if_neg h]; rfl
theorem esc_le : ∀ l : List UInt8, l.length ≤ (esc l).length
  | [] => Nat.le_refl _
  | c :: l => by
    rw [esc]
    have := esc_le l
    split <;> simp <;> omega
end Go.Proofs.YtelbhegkaihjhaaDoor
