/-
  The Go text of sums, masks and of whether a text is whole, walked. Conditions: as each theorem states.
-/
import Derived.Test.YtindchneeflgfaaCrB
namespace Go.Proofs.Ytindchneeflgfaa.Crc
open Go.RowKit

theorem inv32 {m : Nat} (h : m < 4294967296) : bits .xor .u32 IntKind.u32.max (m : Int) = ((neg32 m : Nat) : Int) := by
  have := u32_xor_nat 4294967295 m (by decide) h
  rw [neg_xor h] at this
  exact this
theorem stepped_at {x : Int} {n : Nat} (hx : x = n) (hn : n < 4294967296) (s : ByteArray) (hs : s.size ≤ maxLen) (w : World) :
    Calls Try.prog 47 #[.int .u32 x, .string s] w fun e w' => e = .returned (.int .u32 (run n s.data.toList)) ∧ w = w' := by
  subst hx; exact stepped_any n hn s hs w
theorem byTable_at {x : Int} {n : Nat} (hx : x = n) (hn : n < 4294967296) (s : ByteArray) (hs : s.size ≤ maxLen) (w : World) :
    Calls Try.prog 48 #[.int .u32 x, .string s] w fun e w' => e = .returned (.int .u32 (run n s.data.toList)) ∧ Below w.heap.size w w' := by
  subst hx; exact byTable_any n hn s hs w
set_option maxRecDepth 100000 in
theorem add_any (n : Nat) (hn : n < 4294967296) (s : ByteArray) (hs : s.size ≤ maxLen) (w : World) :
    Calls Try.prog 38 #[.int .u32 n, .string s] w fun e w' => e = .returned (.int .u32 (add n s.data.toList)) ∧ Below w.heap.size w w' := by
  have hM : Hid (s.size ≤ maxLen) := hs
  unfold maxLen at hs
  by_cases h : s.size < 256
  · go_enter Try.func38, Try.ntmps38
    go_wp2_with (go_at_call 47; refine (stepped_at (inv32 hn) (neg_lt n) s hM.out _).mono ?_; rintro e w' ⟨rfl, rfl⟩)
    go_ret
    exact ⟨ret_int (by rw [inv32 (run_lt _ (neg_lt n))]; rfl), Below.refl _ _⟩
  · have h' : 256 ≤ s.size := by omega
    go_enter Try.func38, Try.ntmps38
    go_wp2_with (go_at_call 48; refine (byTable_at (inv32 hn) (neg_lt n) s hM.out _).mono ?_; rintro e w' ⟨rfl, hb⟩)
    go_ret
    exact ⟨ret_int (by rw [inv32 (run_lt _ (neg_lt n))]; rfl), hb⟩
theorem rot_join (n p q i : Nat) (hn : n < 4294967296) (hi : 2 ^ i = q) (hpq : p * q = 4294967296) (hp : 0 < p) :
    bits .or .u32 ((n : Int) * (q : Int) % 4294967296) ((n : Int) / (p : Int)) = ((n % p * q + n / p : Nat) : Int) := by
  have e1 : (n * q) % 4294967296 = n % p * q := by rw [← hpq, Nat.mul_mod_mul_right]
  have hlt : n / p < q := by rw [Nat.div_lt_iff_lt_mul hp, Nat.mul_comm, hpq]; exact hn
  have hmq : q ≤ 4294967296 := by rw [← hpq]; exact Nat.le_mul_of_pos_left _ hp
  have := u32_or_nat (n * q % 4294967296) (n / p) (Nat.mod_lt _ (by decide)) (Nat.lt_of_lt_of_le hlt hmq)
  rw [nat_join i _ _ (by rw [e1, hi, Nat.mul_mod_left]) (by rw [hi]; exact hlt), e1] at this
  rw [← this]
  congr 1
  rw [← e1]; simp
theorem rotm15 (n : Nat) (hn : n < 4294967296) (w : World) :
    Calls Try.prog 37 #[.int .u32 n, .int .i64 (-15)] w fun e w' => e = .returned (.int .u32 ((n % 32768 * 131072 + n / 32768 : Nat) : Int)) ∧ w = w' := by
  have h1 : bits .and .u64 15 31 = 15 := by kernel_rfl
  have h2 : bits .and .u64 (IntKind.u64.wrap (-15)) 31 = 17 := by kernel_rfl
  go_enter Try.func37, Try.ntmps37
  go_wp2
  go_ret
  exact ⟨ret_int (rot_join n 32768 131072 17 hn rfl rfl (by decide)), rfl⟩
def mask (n : Nat) : Nat := (n % 32768 * 131072 + n / 32768 + 2726488792) % 4294967296
def unmask (m : Nat) : Nat := (m + 4294967296 - 2726488792) % 4294967296 % 131072 * 32768 + (m + 4294967296 - 2726488792) % 4294967296 / 131072
theorem mask_lt (n : Nat) : mask n < 4294967296 := Nat.mod_lt _ (by decide)
theorem unmask_lt (n : Nat) : unmask n < 4294967296 := by unfold unmask; omega
def r17 (n : Nat) : Nat := n % 32768 * 131072 + n / 32768
def r15 (n : Nat) : Nat := n % 131072 * 32768 + n / 131072
theorem r17_lt {n : Nat} (h : n < 4294967296) : r17 n < 4294967296 := by unfold r17; omega
theorem r15_17 {n : Nat} (h : n < 4294967296) : r15 (r17 n) = n := by
  have a : r17 n % 131072 = n / 32768 := by unfold r17; omega
  have b : r17 n / 131072 = n % 32768 := by unfold r17; omega
  unfold r15
  rw [a, b]; omega
theorem r17_15 {n : Nat} (h : n < 4294967296) : r17 (r15 n) = n := by
  have a : r15 n % 32768 = n / 131072 := by unfold r15; omega
  have b : r15 n / 32768 = n % 131072 := by unfold r15; omega
  unfold r17
  rw [a, b]; omega
theorem mask_r (n : Nat) : mask n = (r17 n + 2726488792) % 4294967296 := rfl
theorem unmask_r (n : Nat) : unmask n = r15 ((n + 4294967296 - 2726488792) % 4294967296) := rfl
theorem unmask_mask {n : Nat} (h : n < 4294967296) : unmask (mask n) = n := by
  have h1 := r17_lt h
  have e : (mask n + 4294967296 - 2726488792) % 4294967296 = r17 n := by rw [mask_r]; omega
  rw [unmask_r, e, r15_17 h]
theorem mask_unmask {n : Nat} (h : n < 4294967296) : mask (unmask n) = n := by
  rw [mask_r, unmask_r, r17_15 (Nat.mod_lt _ (by decide))]; omega
theorem refMask_any (n : Nat) (hn : n < 4294967296) (w : World) :
    Calls Try.prog 31 #[.int .u32 n] w fun e w' => e = .returned (.int .u32 (mask n)) ∧ w = w' := by
  go_enter Try.func31, Try.ntmps31
  go_wp2
  go_ret
  exact ⟨ret_int (by unfold mask; omega), rfl⟩
theorem mask_any (n : Nat) (hn : n < 4294967296) (w : World) :
    Calls Try.prog 29 #[.int .u32 n] w fun e w' => e = .returned (.int .u32 (mask n)) ∧ w = w' := by
  go_enter Try.func29, Try.ntmps29
  go_wp2_with (go_at_call 37; refine (rotm15 n hn _).mono ?_; rintro e w' ⟨rfl, rfl⟩)
  go_ret
  exact ⟨ret_int (by unfold mask; omega), rfl⟩
theorem of_any (s : ByteArray) (hs : s.size ≤ maxLen) (w : World) :
    Calls Try.prog 30 #[.string s] w fun e w' => e = .returned (.int .u32 (ofL s.data.toList)) ∧ Below w.heap.size w w' := by
  have hM : Hid (s.size ≤ maxLen) := hs
  clear hs
  go_enter Try.func30, Try.ntmps30
  go_wp2_with (go_at_call 38; refine (add_any 0 (by decide) s hM.out _).mono ?_; rintro e w' ⟨rfl, hb⟩)
  go_ret
  exact ⟨rfl, hb⟩
theorem refOf_any (s : ByteArray) (hs : s.size ≤ maxLen) (w : World) :
    Calls Try.prog 32 #[.string s] w fun e w' => e = .returned (.int .u32 (ofL s.data.toList)) ∧ w = w' := by
  have hM : Hid (s.size ≤ maxLen) := hs
  clear hs
  go_enter Try.func32, Try.ntmps32
  go_wp2_with (go_at_call 39; refine (refAdd_any 0 (by decide) s hM.out _).mono ?_; rintro e w' ⟨rfl, rfl⟩)
  go_ret
  exact ⟨rfl, rfl⟩
theorem ofL_lt (l : List UInt8) : ofL l < 4294967296 := add_lt _ _
theorem whole_yes (s : ByteArray) (hs : s.size ≤ maxLen) (n : Nat) (hn : mask (ofL s.data.toList) = n) (w : World) :
    Calls Try.prog 45 #[.string s, .int .u32 n] w fun e w' => e = .returned (.bool true) ∧ Below w.heap.size w w' := by
  have hM : Hid (s.size ≤ maxLen) := hs
  clear hs
  subst hn
  go_enter Try.func45, Try.ntmps45
  go_wp2_with (first
    | (go_at_call 30; refine (of_any s hM.out _).mono ?_; rintro e w1 ⟨rfl, hb⟩)
    | (go_at_call 29; refine (mask_any _ (ofL_lt _) _).mono ?_; rintro e w2 ⟨rfl, rfl⟩))
  go_ret
  exact ⟨rfl, hb⟩
theorem whole_no (s : ByteArray) (hs : s.size ≤ maxLen) (n : Nat) (hn : ¬ mask (ofL s.data.toList) = n) (w : World) :
    Calls Try.prog 45 #[.string s, .int .u32 n] w fun e w' => e = .returned (.bool false) ∧ Below w.heap.size w w' := by
  have hM : Hid (s.size ≤ maxLen) := hs
  clear hs
  have hb1 : ((mask (ofL s.data.toList) : Int) == (n : Int)) = false := by simpa using fun e => hn (by omega)
  go_enter Try.func45, Try.ntmps45
  go_wp2_with (first
    | (go_at_call 30; refine (of_any s hM.out _).mono ?_; rintro e w1 ⟨rfl, hb⟩)
    | (go_at_call 29; refine (mask_any _ (ofL_lt _) _).mono ?_; rintro e w2 ⟨rfl, rfl⟩))
  go_ret
  exact ⟨rfl, hb⟩
attribute [irreducible] mask unmask r15 r17
end Go.Proofs.Ytindchneeflgfaa.Crc
