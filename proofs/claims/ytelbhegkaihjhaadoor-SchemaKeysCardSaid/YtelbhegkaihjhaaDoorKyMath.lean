/-
  Numbers by their digits of eight bits, the highest first; keys: plain mathematics, of no program. No condition but those stated.
-/
import Derived.Test.YtelbhegkaihjhaaDoorViMath
namespace Go.Proofs.YtelbhegkaihjhaaDoor.Vi

def dig : List Nat → Nat
  | [] => 0
  | b :: l => b + 256 * dig l
theorem and_step (a m x y : Nat) (ha : a < 256) (hm : m < 256) : (a + 256 * x) &&& (m + 256 * y) = (a &&& m) + 256 * (x &&& y) := by
  have hk : a &&& m < 256 := Nat.lt_of_le_of_lt Nat.and_le_left ha
  have h1 : ((a + 256 * x) &&& (m + 256 * y)) % 256 = a &&& m := by
    have := Nat.and_mod_two_pow (a := a + 256 * x) (b := m + 256 * y) (n := 8)
    simp only [show (2 : Nat) ^ 8 = 256 from rfl] at this
    rw [this, show (a + 256 * x) % 256 = a by omega, show (m + 256 * y) % 256 = m by omega]
  have h2 : ((a + 256 * x) &&& (m + 256 * y)) / 256 = x &&& y := by
    have := Nat.and_div_two_pow (a := a + 256 * x) (b := m + 256 * y) (n := 8)
    simp only [show (2 : Nat) ^ 8 = 256 from rfl] at this
    rw [this, show (a + 256 * x) / 256 = x by omega, show (m + 256 * y) / 256 = y by omega]
  omega
theorem or_step (a m x y : Nat) (ha : a < 256) (hm : m < 256) : (a + 256 * x) ||| (m + 256 * y) = (a ||| m) + 256 * (x ||| y) := by
  have hk : a ||| m < 256 := Nat.or_lt_two_pow (n := 8) ha hm
  have h1 : ((a + 256 * x) ||| (m + 256 * y)) % 256 = a ||| m := by
    have := Nat.or_mod_two_pow (a := a + 256 * x) (b := m + 256 * y) (n := 8)
    simp only [show (2 : Nat) ^ 8 = 256 from rfl] at this
    rw [this, show (a + 256 * x) % 256 = a by omega, show (m + 256 * y) % 256 = m by omega]
  have h2 : ((a + 256 * x) ||| (m + 256 * y)) / 256 = x ||| y := by
    have := Nat.or_div_two_pow (a := a + 256 * x) (b := m + 256 * y) (n := 8)
    simp only [show (2 : Nat) ^ 8 = 256 from rfl] at this
    rw [this, show (a + 256 * x) / 256 = x by omega, show (m + 256 * y) / 256 = y by omega]
  omega
theorem and_all (b : Nat) (h : b < 256) : b &&& 255 = b := by
  have := Nat.and_two_pow_sub_one_eq_mod b 8
  simp only [show (2 : Nat) ^ 8 - 1 = 255 from rfl, show (2 : Nat) ^ 8 = 256 from rfl] at this
  rw [this]; omega
/-- a number's eight digits turned round, in the three steps of the text -/
def rev8 (n : Nat) : Nat := big (little 8 n).reverse
theorem swap1 (a b c d e f g h : Nat) (ha : a < 256) (hb : b < 256) (hc : c < 256) (hd : d < 256) (he : e < 256) (hf : f < 256) (hg : g < 256) (hh : h < 256) :
    (dig [a, b, c, d, e, f, g, h] / 256 &&& 71777214294589695) ||| ((dig [a, b, c, d, e, f, g, h] &&& 71777214294589695) * 256 % 18446744073709551616) = dig [b, a, d, c, f, e, h, g] := by
  have m : (71777214294589695 : Nat) = dig [255, 0, 255, 0, 255, 0, 255, 0] := by decide
  have e1 : dig [a, b, c, d, e, f, g, h] / 256 = dig [b, c, d, e, f, g, h, 0] := by simp only [dig]; omega
  rw [m, e1]
  have e2 : dig [b, c, d, e, f, g, h, 0] &&& dig [255, 0, 255, 0, 255, 0, 255, 0] = dig [b, 0, d, 0, f, 0, h, 0] := by
    simp only [dig]
    rw [and_step _ _ _ _ hb (by omega), and_step _ _ _ _ hc (by omega), and_step _ _ _ _ hd (by omega), and_step _ _ _ _ he (by omega), and_step _ _ _ _ hf (by omega), and_step _ _ _ _ hg (by omega), and_step _ _ _ _ hh (by omega)]
    simp only [and_all _ hb, and_all _ hd, and_all _ hf, and_all _ hh, Nat.and_zero, Nat.mul_zero, Nat.add_zero, Nat.zero_add] <;> omega
  have e3 : dig [a, b, c, d, e, f, g, h] &&& dig [255, 0, 255, 0, 255, 0, 255, 0] = dig [a, 0, c, 0, e, 0, g, 0] := by
    simp only [dig]
    rw [and_step _ _ _ _ ha (by omega), and_step _ _ _ _ hb (by omega), and_step _ _ _ _ hc (by omega), and_step _ _ _ _ hd (by omega), and_step _ _ _ _ he (by omega), and_step _ _ _ _ hf (by omega), and_step _ _ _ _ hg (by omega)]
    simp only [and_all _ ha, and_all _ hc, and_all _ he, and_all _ hg, Nat.and_zero, Nat.mul_zero, Nat.add_zero, Nat.zero_add] <;> omega
  rw [e2, e3]
  have e4 : dig [a, 0, c, 0, e, 0, g, 0] * 256 % 18446744073709551616 = dig [0, a, 0, c, 0, e, 0, g] := by simp only [dig]; omega
  rw [e4]
  simp only [dig]
  rw [or_step _ _ _ _ hb (by omega), or_step _ _ _ _ (by omega) ha, or_step _ _ _ _ hd (by omega), or_step _ _ _ _ (by omega) hc, or_step _ _ _ _ hf (by omega), or_step _ _ _ _ (by omega) he, or_step _ _ _ _ hh (by omega)]
  simp only [Nat.or_zero, Nat.zero_or, Nat.mul_zero, Nat.add_zero]
theorem swap2 (a b c d e f g h : Nat) (ha : a < 256) (hb : b < 256) (hc : c < 256) (hd : d < 256) (he : e < 256) (hf : f < 256) (hg : g < 256) (hh : h < 256) :
    (dig [a, b, c, d, e, f, g, h] / 65536 &&& 281470681808895) ||| ((dig [a, b, c, d, e, f, g, h] &&& 281470681808895) * 65536 % 18446744073709551616) = dig [c, d, a, b, g, h, e, f] := by
  have m : (281470681808895 : Nat) = dig [255, 255, 0, 0, 255, 255, 0, 0] := by decide
  have e1 : dig [a, b, c, d, e, f, g, h] / 65536 = dig [c, d, e, f, g, h, 0, 0] := by simp only [dig]; omega
  rw [m, e1]
  have e2 : dig [c, d, e, f, g, h, 0, 0] &&& dig [255, 255, 0, 0, 255, 255, 0, 0] = dig [c, d, 0, 0, g, h, 0, 0] := by
    simp only [dig]
    rw [and_step _ _ _ _ hc (by omega), and_step _ _ _ _ hd (by omega), and_step _ _ _ _ he (by omega), and_step _ _ _ _ hf (by omega), and_step _ _ _ _ hg (by omega), and_step _ _ _ _ hh (by omega)]
    simp only [and_all _ hc, and_all _ hd, and_all _ hg, and_all _ hh, Nat.and_zero, Nat.mul_zero, Nat.add_zero, Nat.zero_add] <;> omega
  have e3 : dig [a, b, c, d, e, f, g, h] &&& dig [255, 255, 0, 0, 255, 255, 0, 0] = dig [a, b, 0, 0, e, f, 0, 0] := by
    simp only [dig]
    rw [and_step _ _ _ _ ha (by omega), and_step _ _ _ _ hb (by omega), and_step _ _ _ _ hc (by omega), and_step _ _ _ _ hd (by omega), and_step _ _ _ _ he (by omega), and_step _ _ _ _ hf (by omega)]
    simp only [and_all _ ha, and_all _ hb, and_all _ he, and_all _ hf, Nat.and_zero, Nat.mul_zero, Nat.add_zero, Nat.zero_add] <;> omega
  rw [e2, e3]
  have e4 : dig [a, b, 0, 0, e, f, 0, 0] * 65536 % 18446744073709551616 = dig [0, 0, a, b, 0, 0, e, f] := by simp only [dig]; omega
  rw [e4]
  simp only [dig]
  rw [or_step _ _ _ _ hc (by omega), or_step _ _ _ _ hd (by omega), or_step _ _ _ _ (by omega) ha, or_step _ _ _ _ (by omega) hb, or_step _ _ _ _ hg (by omega), or_step _ _ _ _ hh (by omega)]
  simp only [Nat.or_zero, Nat.zero_or, Nat.mul_zero, Nat.add_zero]
theorem swap3 (a b c d e f g h : Nat) (ha : a < 256) (hb : b < 256) (hc : c < 256) (hd : d < 256) (he : e < 256) (hf : f < 256) (hg : g < 256) (hh : h < 256) :
    (dig [a, b, c, d, e, f, g, h] / 4294967296) ||| (dig [a, b, c, d, e, f, g, h] * 4294967296 % 18446744073709551616) = dig [e, f, g, h, a, b, c, d] := by
  have e1 : dig [a, b, c, d, e, f, g, h] / 4294967296 = dig [e, f, g, h, 0, 0, 0, 0] := by simp only [dig]; omega
  have e4 : dig [a, b, c, d, e, f, g, h] * 4294967296 % 18446744073709551616 = dig [0, 0, 0, 0, a, b, c, d] := by simp only [dig]; omega
  rw [e1, e4]
  simp only [dig]
  rw [or_step _ _ _ _ he (by omega), or_step _ _ _ _ hf (by omega), or_step _ _ _ _ hg (by omega), or_step _ _ _ _ hh (by omega)]
  simp only [Nat.or_zero, Nat.zero_or, Nat.mul_zero, Nat.add_zero]
theorem big_dig (l : List UInt8) : big l = dig (l.map UInt8.toNat) := by
  induction l with
  | nil => rw [big_nil]; rfl
  | cons c l ih => rw [big_cons, ih]; rfl
theorem rev8_lt (n : Nat) : rev8 n < 18446744073709551616 := by
  have := big_lt (little 8 n).reverse
  rw [List.length_reverse, little_len] at this
  exact this
theorem little_rev8 (n : Nat) : little 8 (rev8 n) = (little 8 n).reverse := by
  have := little_big (little 8 n).reverse
  rw [List.length_reverse, little_len] at this
  exact this
theorem rev8_rev8 {n : Nat} (h : n < 18446744073709551616) : rev8 (rev8 n) = n := by
  unfold rev8
  have h2 := little_big (little 8 n).reverse
  rw [List.length_reverse, little_len] at h2
  rw [h2, List.reverse_reverse, big_little 8 n h]
/-- what the text of the library reckons -/
def revText (n : Nat) : Nat :=
  let x := (n / 256 &&& 71777214294589695) ||| ((n &&& 71777214294589695) * 256 % 18446744073709551616)
  let y := (x / 65536 &&& 281470681808895) ||| ((x &&& 281470681808895) * 65536 % 18446744073709551616)
  (y / 4294967296) ||| (y * 4294967296 % 18446744073709551616)
theorem revText_eq {n : Nat} (h : n < 18446744073709551616) : revText n = rev8 n := by
  obtain ⟨l, hl⟩ : ∃ l, l = little 8 n := ⟨_, rfl⟩
  have hlen : l.length = 8 := by rw [hl]; exact little_len 8 n
  have hn : n = big l := by rw [hl, big_little 8 n h]
  unfold rev8
  rw [← hl, big_dig]
  match l, hlen with
  | [a, b, c, d, e, f, g, k], _ =>
    rw [big_dig] at hn
    subst hn
    have ha := a.toNat_lt; have hb := b.toNat_lt; have hc := c.toNat_lt; have hd := d.toNat_lt
    have he := e.toNat_lt; have hf := f.toNat_lt; have hg := g.toNat_lt; have hk := k.toNat_lt
    unfold revText
    simp only [List.map_cons, List.map_nil]
    rw [swap1 _ _ _ _ _ _ _ _ ha hb hc hd he hf hg hk]
    rw [swap2 _ _ _ _ _ _ _ _ hb ha hd hc hf he hk hg]
    rw [swap3 _ _ _ _ _ _ _ _ hd hc hb ha hk hg hf he]
    rfl
attribute [irreducible] rev8
end Go.Proofs.YtelbhegkaihjhaaDoor.Vi
