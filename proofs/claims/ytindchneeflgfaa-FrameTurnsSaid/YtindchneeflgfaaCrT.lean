/-
  Plain mathematics: a text in which something is turned within four bytes in a row has another sum (CRC-32C). Conditions: as each theorem states.
-/
import Derived.Test.YtindchneeflgfaaCrMath
namespace Go.Proofs.Ytindchneeflgfaa.Crc

theorem xor_mod2 (a b : Nat) : (a ^^^ b) % 2 = (a % 2 + b % 2) % 2 := by
  have := Nat.testBit_xor a b 0
  simp only [Nat.testBit_zero] at this
  have ha : a % 2 = 0 ∨ a % 2 = 1 := by omega
  have hb : b % 2 = 0 ∨ b % 2 = 1 := by omega
  have hc : (a ^^^ b) % 2 = 0 ∨ (a ^^^ b) % 2 = 1 := by omega
  rcases ha with ha | ha <;> rcases hb with hb | hb <;> rcases hc with hc | hc <;> simp [ha, hb, hc] at this ⊢
theorem xor_div2 (a b : Nat) : (a ^^^ b) / 2 = a / 2 ^^^ b / 2 := by
  rw [← Nat.pow_one 2, Nat.xor_div_two_pow]
theorem stp_xor (a b : Nat) : stp (a ^^^ b) = stp a ^^^ stp b := by
  unfold stp
  rw [xor_mod2, xor_div2]
  have ha : a % 2 = 0 ∨ a % 2 = 1 := by omega
  have hb : b % 2 = 0 ∨ b % 2 = 1 := by omega
  rcases ha with ha | ha <;> rcases hb with hb | hb <;> simp only [ha, hb]
  · simp
  · simp [Nat.xor_assoc]
  · simp only [if_true, Nat.zero_ne_one, if_false]
    rw [Nat.xor_assoc, Nat.xor_comm (b / 2), ← Nat.xor_assoc]
  · simp only [if_true]
    rw [if_neg (by decide), Nat.xor_assoc, Nat.xor_comm (b / 2), ← Nat.xor_assoc 2197175160, Nat.xor_self, Nat.zero_xor]
theorem stps_xor (k : Nat) : ∀ a b, stps k (a ^^^ b) = stps k a ^^^ stps k b := by
  induction k with
  | zero => intro a b; rfl
  | succ k ih => intro a b; show stps k (stp (a ^^^ b)) = _; rw [stp_xor, ih]; rfl
theorem stp_two (x : Nat) : stp (x * 2) = x := by unfold stp; rw [if_neg (by omega)]; omega
theorem stps_256 (x : Nat) : stps 8 (x * 256) = x := by
  have e : x * 256 = x * 2 * 2 * 2 * 2 * 2 * 2 * 2 * 2 := by omega
  rw [e]
  simp only [stps, stp_two]
theorem split256 (x : Nat) : x = (x % 256) ^^^ (x / 256 * 256) := by
  apply Nat.eq_of_testBit_eq
  intro i
  rw [Nat.testBit_xor, show (256 : Nat) = 2 ^ 8 from rfl, Nat.testBit_mod_two_pow, Nat.testBit_mul_two_pow, Nat.testBit_div_two_pow]
  by_cases h : i < 8
  · have h' : ¬ 8 ≤ i := by omega
    simp [h, h']
  · have h' : 8 ≤ i := by omega
    simp [h, h', Nat.sub_add_cancel h']
theorem step8 (d x : Nat) : stps 8 (d ^^^ x) = stps 8 (d ^^^ x % 256) ^^^ x / 256 := by
  have e : d ^^^ x = (d ^^^ x % 256) ^^^ (x / 256 * 256) := by rw [Nat.xor_assoc, ← split256]
  rw [e, stps_xor, stps_256]
theorem upd_stps (s : Nat) (c : UInt8) : upd s c = stps 8 (s ^^^ c.toNat) := by
  unfold upd byt
  have e : s ^^^ c.toNat = ((s % 256) ^^^ c.toNat) ^^^ (s / 256 * 256) := by
    rw [Nat.xor_comm (s % 256), Nat.xor_assoc, ← split256, Nat.xor_comm]
  rw [e, stps_xor 8 ((s % 256) ^^^ c.toNat), stps_256]
theorem stp_ne {a : Nat} (h : a < 4294967296) (h0 : a ≠ 0) : stp a ≠ 0 := by
  unfold stp
  split
  · intro e
    have : a / 2 = 2197175160 := by
      have h2 : a / 2 ^^^ 2197175160 ^^^ 2197175160 = 0 ^^^ 2197175160 := by rw [e]
      rwa [Nat.xor_assoc, Nat.xor_self, Nat.xor_zero, Nat.zero_xor] at h2
    omega
  · omega
theorem stps_ne (k : Nat) : ∀ {a : Nat}, a < 4294967296 → a ≠ 0 → stps k a ≠ 0 := by
  induction k with
  | zero => intro a _ h; exact h
  | succ k ih => intro a h h0; exact ih (stp_lt h) (stp_ne h h0)
theorem xor_lt32 {a b : Nat} (ha : a < 4294967296) (hb : b < 4294967296) : a ^^^ b < 4294967296 := Nat.xor_lt_two_pow (n := 32) ha hb

/-- two sums that differ by d go on to differ -/
theorem upd_dif (s d : Nat) (c e : UInt8) : upd (s ^^^ d) (c ^^^ e) = upd s c ^^^ stps 8 (d ^^^ e.toNat) := by
  rw [upd_stps, upd_stps, ← stps_xor]
  congr 1
  rw [UInt8.toNat_xor]
  rw [Nat.xor_assoc, Nat.xor_assoc]
  congr 1
  rw [← Nat.xor_assoc, ← Nat.xor_assoc, Nat.xor_comm d]
theorem run_dif (r : List UInt8) : ∀ (s d : Nat), run (s ^^^ d) r = run s r ^^^ stps (8 * r.length) d := by
  induction r with
  | nil => intro s d; rfl
  | cons c r ih =>
    intro s d
    have h := upd_dif s d c 0
    rw [show c ^^^ 0 = c by simp, show (0 : UInt8).toNat = 0 from rfl, Nat.xor_zero] at h
    show run (upd (s ^^^ d) c) r = run (upd s c) r ^^^ _
    rw [h, ih]
    congr 1
def turnByte (t i : Nat) : UInt8 := UInt8.ofNat (t / 256 ^ i)
theorem turnByte_toNat (t i : Nat) : (turnByte t i).toNat = t / 256 ^ i % 256 := by simp [turnByte]

theorem run_turn (σ t : Nat) (c0 c1 c2 c3 : UInt8) (ht : t < 4294967296) :
    run σ [c0 ^^^ turnByte t 0, c1 ^^^ turnByte t 1, c2 ^^^ turnByte t 2, c3 ^^^ turnByte t 3] = run σ [c0, c1, c2, c3] ^^^ stps 8 (stps 8 (stps 8 (stps 8 t))) := by
  have h0 := upd_dif σ 0 c0 (turnByte t 0)
  rw [Nat.xor_zero] at h0
  have s0 := step8 0 t
  have e0 : (turnByte t 0).toNat = t % 256 := by rw [turnByte_toNat]; simp
  rw [← e0] at s0
  rw [Nat.zero_xor] at s0
  have s1 := step8 (stps 8 (0 ^^^ (turnByte t 0).toNat)) (t / 256)
  have e1 : (turnByte t 1).toNat = t / 256 % 256 := by rw [turnByte_toNat]
  rw [← e1] at s1
  have s2 := step8 (stps 8 (stps 8 (0 ^^^ (turnByte t 0).toNat) ^^^ (turnByte t 1).toNat)) (t / 256 / 256)
  have e2 : (turnByte t 2).toNat = t / 256 / 256 % 256 := by rw [turnByte_toNat, Nat.div_div_eq_div_mul]
  rw [← e2] at s2
  have s3 := step8 (stps 8 (stps 8 (stps 8 (0 ^^^ (turnByte t 0).toNat) ^^^ (turnByte t 1).toNat) ^^^ (turnByte t 2).toNat)) (t / 256 / 256 / 256)
  have e3 : (turnByte t 3).toNat = t / 256 / 256 / 256 % 256 := by rw [turnByte_toNat, Nat.div_div_eq_div_mul, Nat.div_div_eq_div_mul]
  rw [← e3] at s3
  have z : t / 256 / 256 / 256 / 256 = 0 := by omega
  rw [z, Nat.xor_zero] at s3
  show upd (upd (upd (upd σ (c0 ^^^ turnByte t 0)) (c1 ^^^ turnByte t 1)) (c2 ^^^ turnByte t 2)) (c3 ^^^ turnByte t 3) = upd (upd (upd (upd σ c0) c1) c2) c3 ^^^ _
  rw [h0, upd_dif, upd_dif, upd_dif, s0, s1, s2, s3]

/-- THE FACT: what is turned within four bytes in a row turns the sum. -/
theorem ofL_turn (p r : List UInt8) (c0 c1 c2 c3 : UInt8) (t : Nat) (ht : t < 4294967296) (h0 : t ≠ 0) :
    ofL (p ++ ([c0 ^^^ turnByte t 0, c1 ^^^ turnByte t 1, c2 ^^^ turnByte t 2, c3 ^^^ turnByte t 3] ++ r)) ≠ ofL (p ++ ([c0, c1, c2, c3] ++ r)) := by
  intro h
  unfold ofL add at h
  have hr1 := run_lt (p ++ ([c0 ^^^ turnByte t 0, c1 ^^^ turnByte t 1, c2 ^^^ turnByte t 2, c3 ^^^ turnByte t 3] ++ r)) (neg_lt 0)
  have hr2 := run_lt (p ++ ([c0, c1, c2, c3] ++ r)) (neg_lt 0)
  have h2 : run (neg32 0) (p ++ ([c0 ^^^ turnByte t 0, c1 ^^^ turnByte t 1, c2 ^^^ turnByte t 2, c3 ^^^ turnByte t 3] ++ r)) = run (neg32 0) (p ++ ([c0, c1, c2, c3] ++ r)) := by
    have := congrArg neg32 h
    rwa [neg_neg32 hr1, neg_neg32 hr2] at this
  rw [run_append, run_append, run_append, run_append, run_turn _ _ _ _ _ _ ht, run_dif] at h2
  have h3 : stps (8 * r.length) (stps 8 (stps 8 (stps 8 (stps 8 t)))) = 0 := by
    generalize run (run (run (neg32 0) p) [c0, c1, c2, c3]) r = A at h2
    have := congrArg (A ^^^ ·) h2
    simpa [← Nat.xor_assoc] using this
  have b1 := stps_lt 8 ht
  have b2 := stps_lt 8 b1
  have b3 := stps_lt 8 b2
  have b4 := stps_lt 8 b3
  exact stps_ne _ b4 (stps_ne 8 b3 (stps_ne 8 b2 (stps_ne 8 b1 (stps_ne 8 ht h0)))) h3
end Go.Proofs.Ytindchneeflgfaa.Crc
