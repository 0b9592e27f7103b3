/-
  Numbers as bytes of seven bits, and back; numbers in so many bytes: plain mathematics, of no program. No condition but those stated.
-/
namespace Go.Proofs.YtdkgieaanpfhcaaGreatDoor.Vi

/-! a number's bytes -/
def vnum (n : Nat) : List UInt8 := if n < 128 then [UInt8.ofNat n] else UInt8.ofNat (n % 128 + 128) :: vnum (n / 128)
termination_by n
decreasing_by omega
theorem vnum_small {n : Nat} (h : n < 128) : vnum n = [UInt8.ofNat n] := by rw [vnum, if_pos h]
theorem vnum_big {n : Nat} (h : 128 ≤ n) : vnum n = UInt8.ofNat (n % 128 + 128) :: vnum (n / 128) := by rw [vnum, if_neg (by omega)]
theorem vnum_len_le : ∀ (k n : Nat), n < 128 ^ (k + 1) → (vnum n).length ≤ k + 1
  | 0, n, h => by rw [vnum_small (by simpa using h)]; simp
  | k + 1, n, h => by
    by_cases hs : n < 128
    · rw [vnum_small hs]; simp
    · rw [vnum_big (by omega)]
      have := vnum_len_le k (n / 128) (by rw [Nat.pow_succ] at h; omega)
      simp; omega
theorem vnum_len10 {n : Nat} (h : n < 18446744073709551616) : (vnum n).length ≤ 10 := vnum_len_le 9 n (Nat.lt_of_lt_of_le h (by decide))
theorem vnum_pos (n : Nat) : 0 < (vnum n).length := by
  by_cases h : n < 128
  · rw [vnum_small h]; simp
  · rw [vnum_big (by omega)]; simp
theorem vnum_mono : ∀ (a b : Nat), a ≤ b → (vnum a).length ≤ (vnum b).length := by
  intro a
  induction a using Nat.strongRecOn with
  | _ a ih =>
    intro b hab
    by_cases ha : a < 128
    · rw [vnum_small ha]; have := vnum_pos b; simp; omega
    · rw [vnum_big (n := a) (by omega), vnum_big (n := b) (by omega)]
      have := ih (a / 128) (by omega) (b / 128) (by omega)
      simp; omega
theorem vnum_one (n : Nat) : (vnum n).length = 1 ↔ n < 128 := by
  by_cases h : n < 128
  · rw [vnum_small h]; simp [h]
  · rw [vnum_big (by omega), List.length_cons]; have := vnum_pos (n / 128); omega

/-! a number that bytes begin with: it, how many bytes it has, the error -/
def rgo : List UInt8 → Nat → Nat → Nat × Nat × Nat
  | [], _, _ => (0, 0, 3)
  | c :: l, i, n =>
    if i = 9 ∧ 1 < c.toNat then (0, 0, 8) else if 128 ≤ c.toNat then rgo l (i + 1) (n + 128 ^ i * (c.toNat % 128))
    else if c.toNat = 0 ∧ 0 < i then (0, 0, 4) else (n + 128 ^ i * c.toNat, i + 1, 0)
def rnum (l : List UInt8) : Nat × Nat × Nat := rgo l 0 0
theorem rnum_eq (l : List UInt8) : rnum l = rgo l 0 0 := rfl
theorem rgo_nil (i n : Nat) : rgo [] i n = (0, 0, 3) := rfl
theorem rgo_range {c : UInt8} {l : List UInt8} {i n : Nat} (hi : i = 9) (h : 1 < c.toNat) : rgo (c :: l) i n = (0, 0, 8) := by
  rw [rgo, if_pos ⟨hi, h⟩]
theorem rgo_more {c : UInt8} {l : List UInt8} {i n : Nat} (hi : i < 9) (h : 128 ≤ c.toNat) : rgo (c :: l) i n = rgo l (i + 1) (n + 128 ^ i * (c.toNat % 128)) := by
  rw [rgo, if_neg (by omega), if_pos h]
theorem rgo_form {c : UInt8} {l : List UInt8} {i n : Nat} (hi : 0 < i) (h : c.toNat = 0) : rgo (c :: l) i n = (0, 0, 4) := by
  rw [rgo, if_neg (by omega), if_neg (by omega), if_pos ⟨h, hi⟩]
theorem rgo_last {c : UInt8} {l : List UInt8} {i n : Nat} (hi : i < 9 ∨ c.toNat ≤ 1) (h : c.toNat < 128) (h0 : c.toNat ≠ 0 ∨ i = 0) : rgo (c :: l) i n = (n + 128 ^ i * c.toNat, i + 1, 0) := by
  rw [rgo, if_neg (by omega), if_neg (by omega), if_neg (by omega)]
theorem pow9 : (128 : Nat) ^ 9 = 9223372036854775808 := by decide
theorem pow_pos (i : Nat) : 0 < 128 ^ i := Nat.pow_pos (by decide)
theorem pow_le {i : Nat} (h : i ≤ 9) : 128 ^ i ≤ 9223372036854775808 := by rw [← pow9]; exact Nat.pow_le_pow_right (by decide) h
theorem pow_le8 {i : Nat} (h : i < 9) : 128 ^ i ≤ 72057594037927936 := Nat.le_trans (Nat.pow_le_pow_right (by decide) (show i ≤ 8 by omega)) (by decide)
/-- what is told fits -/
theorem rgo_lt : ∀ (l : List UInt8) (i n : Nat), i ≤ 9 → n < 128 ^ i → (rgo l i n).1 < 18446744073709551616 ∧ (rgo l i n).2.1 ≤ i + l.length ∧ (rgo l i n).2.1 ≤ 10
  | [], i, n, _, _ => by simp [rgo_nil]
  | c :: l, i, n, hi, hn => by
    by_cases h1 : i = 9 ∧ 1 < c.toNat
    · rw [rgo_range h1.1 h1.2]; simp
    · by_cases h2 : 128 ≤ c.toNat
      · have hi' : i < 9 := by omega
        rw [rgo_more hi' h2]
        have := rgo_lt l (i + 1) (n + 128 ^ i * (c.toNat % 128)) (by omega) (by
          have hm : c.toNat % 128 ≤ 127 := by omega
          have := Nat.mul_le_mul_left (128 ^ i) hm
          rw [Nat.pow_succ]; omega)
        simp; omega
      · by_cases h3 : c.toNat = 0 ∧ 0 < i
        · rw [rgo_form h3.2 h3.1]; simp
        · rw [rgo_last (by omega) (by omega) (by omega)]
          refine ⟨?_, by simp, by simp; omega⟩
          by_cases h9 : i = 9
          · subst h9
            have := Nat.mul_le_mul_left (128 ^ 9) (show c.toNat ≤ 1 by omega)
            rw [pow9] at *; simp; omega
          · have := Nat.mul_le_mul_left (128 ^ i) (show c.toNat ≤ 127 by omega)
            have := pow_le8 (i := i) (by omega)
            simp; omega
theorem rnum_lt (l : List UInt8) : (rnum l).1 < 18446744073709551616 := (rgo_lt l 0 0 (by omega) (by simp)).1
theorem rnum_len (l : List UInt8) : (rnum l).2.1 ≤ l.length := by have := (rgo_lt l 0 0 (by omega) (by simp)).2.1; unfold rnum; omega
theorem rgo_err : ∀ (l : List UInt8) (i n : Nat), (rgo l i n).2.2 = 0 ∨ ((rgo l i n).1 = 0 ∧ (rgo l i n).2.1 = 0 ∧ ((rgo l i n).2.2 = 3 ∨ (rgo l i n).2.2 = 4 ∨ (rgo l i n).2.2 = 8))
  | [], i, n => by simp [rgo_nil]
  | c :: l, i, n => by
    rw [rgo]
    split
    · simp
    · split
      · exact rgo_err l _ _
      · split <;> simp
theorem rnum_err (l : List UInt8) : (rnum l).2.2 = 0 ∨ ((rnum l).1 = 0 ∧ (rnum l).2.1 = 0 ∧ ((rnum l).2.2 = 3 ∨ (rnum l).2.2 = 4 ∨ (rnum l).2.2 = 8)) := rgo_err l 0 0

/-! there and back -/
theorem toNat_of {n : Nat} (h : n < 256) : (UInt8.ofNat n).toNat = n := by simp; omega
/-- a number that is written is read -/
theorem rgo_vnum : ∀ (k m i n : Nat) (t : List UInt8), i + k = 9 → m < 2 * 128 ^ k → (m ≠ 0 ∨ i = 0) →
    rgo (vnum m ++ t) i n = (n + 128 ^ i * m, i + (vnum m).length, 0)
  | 0, m, i, n, t, hi, hm, h0 => by
    have hm2 : m < 2 := by simpa using hm
    rw [vnum_small (by omega)]
    rw [List.singleton_append, rgo_last (by rw [toNat_of (by omega)]; omega) (by rw [toNat_of (by omega)]; omega) (by rw [toNat_of (by omega)]; omega), toNat_of (by omega)]
    simp
  | k + 1, m, i, n, t, hi, hm, h0 => by
    by_cases hs : m < 128
    · rw [vnum_small hs, List.singleton_append, rgo_last (by omega) (by rw [toNat_of (by omega)]; omega) (by rw [toNat_of (by omega)]; omega), toNat_of (by omega)]
      simp
    · rw [vnum_big (by omega), List.cons_append, rgo_more (by omega) (by rw [toNat_of (by omega)]; omega), toNat_of (by omega)]
      rw [rgo_vnum k (m / 128) (i + 1) _ t (by omega) (by rw [Nat.pow_succ] at hm; omega) (by left; omega)]
      have e : (m % 128 + 128) % 128 = m % 128 := by omega
      have e2 : 128 ^ (i + 1) * (m / 128) = 128 ^ i * (128 * (m / 128)) := by rw [Nat.pow_succ, Nat.mul_assoc]
      have e3 : m % 128 + 128 * (m / 128) = m := by omega
      rw [e, e2, Nat.add_assoc, ← Nat.mul_add, e3]
      simp; omega
theorem rnum_vnum {m : Nat} (h : m < 18446744073709551616) (t : List UInt8) : rnum (vnum m ++ t) = (m, (vnum m).length, 0) := by
  unfold rnum
  rw [rgo_vnum 9 m 0 0 t rfl (Nat.lt_of_lt_of_le h (by decide)) (.inr rfl)]
  simp
/-- a number that is read would be written so -/
theorem vnum_rgo : ∀ (l : List UInt8) (i n a k : Nat), rgo l i n = (a, k, 0) → ∃ m, a = n + 128 ^ i * m ∧ k = i + (vnum m).length ∧ vnum m = l.take (k - i) ∧ (0 < i → m ≠ 0)
  | [], i, n, a, k, h => by simp [rgo_nil] at h
  | c :: l, i, n, a, k, h => by
    have hc := c.toNat_lt
    by_cases h1 : i = 9 ∧ 1 < c.toNat
    · rw [rgo_range h1.1 h1.2] at h; simp at h
    · by_cases h2 : 128 ≤ c.toNat
      · by_cases h9 : i = 9
        · exact absurd ⟨h9, by omega⟩ h1
        · rw [rgo, if_neg h1, if_pos h2] at h
          obtain ⟨m, ha, hk, hv, h0⟩ := vnum_rgo l (i + 1) _ a k h
          have hm : m ≠ 0 := h0 (by omega)
          refine ⟨c.toNat % 128 + 128 * m, ?_, ?_, ?_, fun _ => by omega⟩
          · rw [ha, Nat.pow_succ, Nat.mul_add, Nat.mul_assoc, Nat.add_assoc]
          · rw [vnum_big (by omega), hk]
            have : (c.toNat % 128 + 128 * m) / 128 = m := by omega
            rw [this]; simp; omega
          · rw [vnum_big (by omega)]
            have e1 : (c.toNat % 128 + 128 * m) / 128 = m := by omega
            have e2 : (c.toNat % 128 + 128 * m) % 128 + 128 = c.toNat := by omega
            obtain ⟨j, hj⟩ : ∃ j, k - i = j + 1 := ⟨k - i - 1, by have := vnum_pos m; omega⟩
            rw [e1, e2, hj, List.take_succ_cons, hv]
            have : k - (i + 1) = j := by omega
            rw [this]; simp
      · by_cases h3 : c.toNat = 0 ∧ 0 < i
        · rw [rgo_form h3.2 h3.1] at h; simp at h
        · rw [rgo, if_neg h1, if_neg h2, if_neg h3] at h
          simp only [Prod.mk.injEq] at h
          refine ⟨c.toNat, h.1.symm, ?_, ?_, fun hi => by omega⟩
          · rw [vnum_small (by omega)]; simp; omega
          · rw [vnum_small (by omega)]
            have : k - i = 1 := by omega
            rw [this]; simp
theorem vnum_rnum {l : List UInt8} {a k : Nat} (h : rnum l = (a, k, 0)) : vnum a = l.take k := by
  obtain ⟨m, ha, hk, hv, _⟩ := vnum_rgo l 0 0 a k h
  have : a = m := by simpa using ha
  subst this; simpa using hv

/-! no number's bytes begin another one's -/
theorem vnum_begins : ∀ (a b : Nat) (t : List UInt8), vnum b = vnum a ++ t → a = b ∧ t = [] := by
  intro a
  induction a using Nat.strongRecOn with
  | _ a ih =>
    intro b t h
    by_cases ha : a < 128
    · by_cases hb : b < 128
      · rw [vnum_small ha, vnum_small hb] at h
        simp only [List.singleton_append, List.cons.injEq] at h
        have := congrArg UInt8.toNat h.1
        rw [toNat_of (by omega), toNat_of (by omega)] at this
        exact ⟨this.symm, h.2.symm⟩
      · rw [vnum_small ha, vnum_big (by omega)] at h
        simp only [List.singleton_append, List.cons.injEq] at h
        have := congrArg UInt8.toNat h.1
        rw [toNat_of (by omega), toNat_of (by omega)] at this
        omega
    · by_cases hb : b < 128
      · rw [vnum_big (n := a) (by omega), vnum_small hb] at h
        simp only [List.cons_append, List.cons.injEq] at h
        have := congrArg UInt8.toNat h.1
        rw [toNat_of (by omega), toNat_of (by omega)] at this
        omega
      · rw [vnum_big (n := a) (by omega), vnum_big (n := b) (by omega)] at h
        simp only [List.cons_append, List.cons.injEq] at h
        have h1 := congrArg UInt8.toNat h.1
        rw [toNat_of (by omega), toNat_of (by omega)] at h1
        obtain ⟨h2, h3⟩ := ih (a / 128) (by omega) (b / 128) t h.2
        exact ⟨by omega, h3⟩
theorem vnum_inj {a b : Nat} (h : vnum a = vnum b) : a = b := (vnum_begins a b [] (by simpa using h.symm)).1

/-! signed numbers -/
def zig (m : Int) : Nat := if m < 0 then (2 * (-m - 1) + 1).toNat else (2 * m).toNat
def zag (n : Nat) : Int := if n % 2 = 1 then -((n / 2 : Nat) : Int) - 1 else ((n / 2 : Nat) : Int)
theorem zag_odd {n : Nat} (h : n % 2 = 1) : zag n = -((n / 2 : Nat) : Int) - 1 := if_pos h
theorem zag_even {n : Nat} (h : ¬ n % 2 = 1) : zag n = ((n / 2 : Nat) : Int) := if_neg h
theorem zag_zero : zag 0 = 0 := rfl
theorem zig_lt {m : Int} (h1 : -9223372036854775808 ≤ m) (h2 : m ≤ 9223372036854775807) : zig m < 18446744073709551616 := by unfold zig; split <;> omega
theorem zag_zig (m : Int) : zag (zig m) = m := by
  unfold zig zag
  split
  · rw [if_pos (by omega)]; omega
  · rw [if_neg (by omega)]; omega
theorem zag_bd {n : Nat} (h : n < 18446744073709551616) : -9223372036854775808 ≤ zag n ∧ zag n ≤ 9223372036854775807 := by unfold zag; split <;> omega
theorem zig_few (m : Int) : zig m < 128 ↔ -64 ≤ m ∧ m < 64 := by unfold zig; split <;> omega

/-! a number in so many bytes, the lowest first -/
def little : Nat → Nat → List UInt8
  | 0, _ => []
  | k + 1, n => UInt8.ofNat (n % 256) :: little k (n / 256)
theorem little_zero (n : Nat) : little 0 n = [] := rfl
theorem little_succ (k n : Nat) : little (k + 1) n = UInt8.ofNat (n % 256) :: little k (n / 256) := rfl
def big : List UInt8 → Nat
  | [] => 0
  | c :: l => c.toNat + 256 * big l
theorem big_nil : big [] = 0 := rfl
theorem big_cons (c : UInt8) (l : List UInt8) : big (c :: l) = c.toNat + 256 * big l := rfl
theorem little_len : ∀ (k n : Nat), (little k n).length = k
  | 0, _ => rfl
  | k + 1, n => by rw [little]; simp [little_len k]
theorem big_lt : ∀ l : List UInt8, big l < 256 ^ l.length
  | [] => by simp [big]
  | c :: l => by have := big_lt l; have := c.toNat_lt; rw [big, List.length_cons, Nat.pow_succ]; omega
theorem big_little : ∀ (k n : Nat), n < 256 ^ k → big (little k n) = n
  | 0, n, h => by simp at h; subst h; rfl
  | k + 1, n, h => by
    rw [little, big, toNat_of (by omega), big_little k (n / 256) (by rw [Nat.pow_succ] at h; omega)]; omega
theorem little_big : ∀ l : List UInt8, little l.length (big l) = l
  | [] => rfl
  | c :: l => by
    have hc := c.toNat_lt
    rw [big, List.length_cons, little]
    have e1 : (c.toNat + 256 * big l) % 256 = c.toNat := by omega
    have e2 : (c.toNat + 256 * big l) / 256 = big l := by omega
    rw [e1, e2, little_big l]; simp
/-- one byte more, at the other end -/
theorem little_snoc : ∀ (k n : Nat), little (k + 1) n = little k n ++ [UInt8.ofNat (n / 256 ^ k % 256)]
  | 0, n => by simp [little]
  | k + 1, n => by
    rw [little, little_snoc k (n / 256)]
    conv => rhs; rw [little]
    rw [List.cons_append, Nat.div_div_eq_div_mul, Nat.pow_succ, Nat.mul_comm 256]
theorem big_snoc : ∀ (l : List UInt8) (c : UInt8), big (l ++ [c]) = big l + 256 ^ l.length * c.toNat
  | [], c => by simp [big]
  | d :: l, c => by
    rw [List.cons_append, big, big_snoc l c, big, List.length_cons, Nat.pow_succ, Nat.mul_add, ← Nat.mul_assoc, Nat.mul_comm 256 (256 ^ l.length), Nat.add_assoc]
attribute [irreducible] zig zag little big rgo rnum
end Go.Proofs.YtdkgieaanpfhcaaGreatDoor.Vi
