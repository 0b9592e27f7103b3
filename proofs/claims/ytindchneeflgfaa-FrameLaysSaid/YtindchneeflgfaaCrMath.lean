/-
  Plain mathematics of the sum CRC-32C over natural numbers: steps, bytes, runs. No condition.
-/
namespace Go.Proofs.Ytindchneeflgfaa.Crc

def stp (n : Nat) : Nat := if n % 2 = 1 then (n / 2) ^^^ 2197175160 else n / 2
def stps : Nat → Nat → Nat
  | 0, n => n
  | k + 1, n => stps k (stp n)
def byt (n : Nat) : Nat := stps 8 n
def upd (s : Nat) (c : UInt8) : Nat := byt ((s % 256) ^^^ c.toNat) ^^^ (s / 256)
def run (s : Nat) (l : List UInt8) : Nat := l.foldl upd s
def neg32 (s : Nat) : Nat := 4294967295 - s
def add (s : Nat) (l : List UInt8) : Nat := neg32 (run (neg32 s) l)
def ofL (l : List UInt8) : Nat := add 0 l

theorem stp_lt {n : Nat} (h : n < 4294967296) : stp n < 4294967296 := by
  unfold stp
  split
  · exact Nat.xor_lt_two_pow (n := 32) (by omega) (by decide)
  · omega
theorem stps_lt (k : Nat) : ∀ {n : Nat}, n < 4294967296 → stps k n < 4294967296 := by
  induction k with
  | zero => intro n h; exact h
  | succ k ih => intro n h; exact ih (stp_lt h)
theorem stps_succ (k : Nat) : ∀ n, stps (k + 1) n = stp (stps k n) := by
  induction k with
  | zero => intro n; rfl
  | succ k ih => intro n; show stps (k + 1) (stp n) = _; rw [ih]; rfl
theorem byt_lt {n : Nat} (h : n < 4294967296) : byt n < 4294967296 := stps_lt 8 h
theorem xor8_lt {s : Nat} (c : UInt8) : (s % 256) ^^^ c.toNat < 256 :=
  Nat.xor_lt_two_pow (n := 8) (Nat.mod_lt _ (by decide)) c.toNat_lt
theorem upd_lt {s : Nat} (c : UInt8) (h : s < 4294967296) : upd s c < 4294967296 := by
  unfold upd
  exact Nat.xor_lt_two_pow (n := 32) (byt_lt (Nat.lt_trans (xor8_lt c) (by decide))) (by omega)
theorem run_lt (l : List UInt8) : ∀ {s : Nat}, s < 4294967296 → run s l < 4294967296 := by
  induction l with
  | nil => intro s h; exact h
  | cons c l ih => intro s h; exact ih (upd_lt c h)
theorem run_append (s : Nat) (l r : List UInt8) : run s (l ++ r) = run (run s l) r := by
  unfold run; rw [List.foldl_append]
theorem run_snoc (s : Nat) (l : List UInt8) (c : UInt8) : run s (l ++ [c]) = upd (run s l) c := by
  rw [run_append]; rfl
theorem neg_lt (s : Nat) : neg32 s < 4294967296 := by unfold neg32; omega
theorem neg_neg32 {s : Nat} (h : s < 4294967296) : neg32 (neg32 s) = s := by unfold neg32; omega
theorem add_lt (s : Nat) (l : List UInt8) : add s l < 4294967296 := neg_lt _
theorem add_add (s : Nat) (l r : List UInt8) : add (add s l) r = add s (l ++ r) := by
  unfold add
  rw [neg_neg32 (run_lt l (neg_lt s)), run_append]
theorem neg_xor {s : Nat} (h : s < 4294967296) : 4294967295 ^^^ s = neg32 s := by
  unfold neg32
  have e : (4294967295 : Nat) = 2 ^ 32 - 1 := by decide
  apply Nat.eq_of_testBit_eq
  intro i
  rw [Nat.testBit_xor]
  have h2 : (4294967295 - s) = 2 ^ 32 - (s + 1) := by omega
  rw [h2, Nat.testBit_two_pow_sub_succ (by omega), e, Nat.testBit_two_pow_sub_one]
  by_cases hi : i < 32
  · simp [hi]
  · have : s.testBit i = false := Nat.testBit_lt_two_pow (Nat.lt_of_lt_of_le h (by
      have := Nat.pow_le_pow_right (n := 2) (by decide) (show 32 ≤ i by omega); simpa using this))
    simp [hi, this]
end Go.Proofs.Ytindchneeflgfaa.Crc
