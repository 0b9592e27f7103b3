/-
  The Go text's sums of CRC-32C, walked: the step of a byte, the bytes of a text. Conditions: as each theorem states.
-/
import Derived.Test.YtindchneeflgfaaRows
import Derived.Test.YtindchneeflgfaaCrMath
import Derived.WalkKit
import Derived.ProofKit
import Derived.OpenShut
import Derived.Lib.Hide
import Derived.Outline
import Derived.WalkMore
import Derived.ScopeJumps
namespace Go.Proofs.Ytindchneeflgfaa.Crc
open Go.RowKit

theorem ret_int {k : IntKind} {a b : Int} (h : a = b) : Ending.returned (.int k a) = .returned (.int k b) := by rw [h]
theorem val_int {k : IntKind} {a b : Int} (h : a = b) : Value.int k a = .int k b := by rw [h]

theorem stp_odd {m : Nat} (hlt : m < 4294967296) (h : ((m : Int) % 2 == 1) = true) : bits .xor .u32 ((m : Int) / 2) 2197175160 = ((stp m : Nat) : Int) := by
  have h1 : m % 2 = 1 := by simp at h; omega
  unfold stp
  rw [if_pos h1]
  have := u32_xor_nat (m / 2) 2197175160 (by omega) (by decide)
  rw [← this]; rfl
theorem stp_even {m : Nat} (h : ((m : Int) % 2 == 1) = false) : (m : Int) / 2 = ((stp m : Nat) : Int) := by
  have h1 : ¬ m % 2 = 1 := by simp at h; omega
  unfold stp
  rw [if_neg h1]; rfl

theorem byte_any (n : Nat) (hn : n < 4294967296) (w : World) :
    Calls Try.prog 49 #[.int .u32 n] w fun e w' => e = .returned (.int .u32 (byt n)) ∧ w = w' := by
  go_enter Try.func49, Try.ntmps49
  go_wp2
  go_loop [0, 3] (fun x i => ∃ k m : Nat, k ≤ 8 ∧ m = stps k n ∧ x = .int .u32 m ∧ i = .int .i64 k) (fun _ i => 8 - (intOf i).toNat)
  case atStart => exact ⟨0, n, by omega, rfl, rfl, rfl⟩
  case round =>
    obtain ⟨k, m, hk, hm, rfl, rfl⟩ := hrel
    have HM := Lib.hid hm
    have hlt : m < 4294967296 := by rw [hm]; exact stps_lt k hn
    clear hm
    by_cases h8 : k < 8
    · go_wp2
      · have ho : ((m : Int) % 2 == 1) = true := by assumption
        go_round
        case rel => exact ⟨k + 1, stp m, by omega, by rw [stps_succ, ← HM.out], val_int (stp_odd hlt ho), by go_num⟩
        case measure => simp [intOf]; omega
      · have ho : ((m : Int) % 2 == 1) = false := by assumption
        go_round
        case rel => exact ⟨k + 1, stp m, by omega, by rw [stps_succ, ← HM.out], val_int (stp_even ho), by go_num⟩
        case measure => simp [intOf]; omega
    · go_wp2
      go_ret
      obtain rfl : k = 8 := by omega
      exact ⟨ret_int (by rw [HM.out]; rfl), rfl⟩

theorem and1 {m : Nat} (hlt : m < 4294967296) : bits .and .u32 (m : Int) 1 = (m : Int) % 2 := by
  have := u32_and_nat m 1 hlt (by decide)
  rw [nat_mask1] at this
  exact this

def NumJ (b : Nat) (w : World) (a' : Act) (w' : World) : Prop :=
  w = w' ∧ ∃ (k m : Nat) (u5 u6 u7 u8 u9 u10 u11 u12 u13 u14 u15 u16 u17 u18 u19 : Value), a' = { tmps := #[.int .u8 b, undef, .int .u32 0, .int .u32 m, .int .i64 ((k : Nat) : Int), u5, u6, u7, u8, u9, u10, u11, u12, u13, u14, u15, u16, u17, u18, u19, undef], defers := [] } ∧ k ≤ 8 ∧ 1 ≤ k ∧ m = stps (8 - k) b
def numMu (a' : Act) : Nat := (intOf (a'.tmps.getD 4 undef)).toNat

theorem number_any (b : Nat) (hb : b < 256) (w : World) :
    Calls Try.prog 54 #[.int .u8 b] w fun e w' => e = .returned (.int .u32 (byt b)) ∧ w = w' := by
  go_enter Try.func54, Try.ntmps54
  go_wp2
  refine wp_scope_jumps 0 (NumJ b w) (fun a' _ => numMu a') rfl ?_ ?_
  · go_wp2
    go_step3
    go_wp2
    · have ho : (bits .and .u32 (b : Int) 1 == 1) = true := by assumption
      rw [and1 (by omega)] at ho
      go_step3
      rw [stp_odd (by omega) ho]
      exact ⟨rfl, rfl, 7, stp b, _, _, _, _, _, _, _, _, _, _, _, _, _, _, _, rfl, by omega, by omega, rfl⟩
    · have ho : (bits .and .u32 (b : Int) 1 == 1) = false := by assumption
      rw [and1 (by omega)] at ho
      go_step3
      rw [stp_even ho]
      exact ⟨rfl, rfl, 7, stp b, _, _, _, _, _, _, _, _, _, _, _, _, _, _, _, rfl, by omega, by omega, rfl⟩
  · rintro a' w' ⟨rfl, k, m, u5, u6, u7, u8, u9, u10, u11, u12, u13, u14, u15, u16, u17, u18, u19, rfl, hk, hk1, hm⟩
    have HM := Lib.hid hm
    have hlt : m < 4294967296 := by rw [hm]; exact stps_lt _ (by omega)
    clear hm
    go_wp2
    · have ho : (bits .and .u32 (m : Int) 1 == 1) = true := by assumption
      rw [and1 hlt] at ho
      go_step3
      rw [stp_odd hlt ho]
      obtain ⟨j, rfl⟩ : ∃ j, k = j + 1 := ⟨k - 1, by omega⟩
      have ek : (((j + 1 : Nat) : Int) - 1) = (j : Int) := by omega
      rw [ek]
      refine ⟨rfl, ⟨rfl, j, stp m, _, _, _, _, _, _, _, _, _, _, _, _, _, _, _, rfl, by omega, by omega, ?_⟩, ?_⟩
      · rw [HM.out, ← stps_succ]; congr 1; omega
      · simp [numMu, intOf]
    · have ho : (bits .and .u32 (m : Int) 1 == 1) = true := by assumption
      have hk1' : (k : Int) ≤ 1 := by assumption
      rw [and1 hlt] at ho
      simp only [Exit.jump]
      go_ret
      obtain rfl : k = 1 := by omega
      exact ⟨ret_int (by rw [stp_odd hlt ho, HM.out, ← stps_succ]; rfl), rfl⟩
    · have ho : (bits .and .u32 (m : Int) 1 == 1) = false := by assumption
      rw [and1 hlt] at ho
      go_step3
      rw [stp_even ho]
      obtain ⟨j, rfl⟩ : ∃ j, k = j + 1 := ⟨k - 1, by omega⟩
      have ek : (((j + 1 : Nat) : Int) - 1) = (j : Int) := by omega
      rw [ek]
      refine ⟨rfl, ⟨rfl, j, stp m, _, _, _, _, _, _, _, _, _, _, _, _, _, _, _, rfl, by omega, by omega, ?_⟩, ?_⟩
      · rw [HM.out, ← stps_succ]; congr 1; omega
      · simp [numMu, intOf]
    · have ho : (bits .and .u32 (m : Int) 1 == 1) = false := by assumption
      have hk1' : (k : Int) ≤ 1 := by assumption
      rw [and1 hlt] at ho
      simp only [Exit.jump]
      go_ret
      obtain rfl : k = 1 := by omega
      exact ⟨ret_int (by rw [stp_even ho, HM.out, ← stps_succ]; rfl), rfl⟩
theorem number_at {x : Int} {b : Nat} (hx : x = b) (hb : b < 256) (w : World) :
    Calls Try.prog 54 #[.int .u8 x] w fun e w' => e = .returned (.int .u32 (byt b)) ∧ w = w' := by
  subst hx; exact number_any b hb w
theorem byte_at {x : Int} {b : Nat} (hx : x = b) (hb : b < 4294967296) (w : World) :
    Calls Try.prog 49 #[.int .u32 x] w fun e w' => e = .returned (.int .u32 (byt b)) ∧ w = w' := by
  subst hx; exact byte_any b hb w
theorem xor8 (m : Nat) (c : UInt8) : bits .xor .u8 ((m : Int) % 256) (c.toNat : Int) = ((m % 256 ^^^ c.toNat : Nat) : Int) := by
  have := u8_xor_nat (m % 256) c.toNat (by omega) c.toNat_lt
  rw [← this]; rfl
theorem xor832 (m : Nat) (c : UInt8) : bits .xor .u32 ((m : Int) % 256) ((c.toNat : Int) % 4294967296) = ((m % 256 ^^^ c.toNat : Nat) : Int) := by
  have hc := c.toNat_lt
  have e : ((c.toNat : Int) % 4294967296) = (c.toNat : Int) := by omega
  rw [e]
  have := u32_xor_nat (m % 256) c.toNat (by omega) (Nat.lt_trans c.toNat_lt (by decide))
  rw [← this]; rfl
theorem upd_eq (m : Nat) (hm : m < 4294967296) (c : UInt8) : bits .xor .u32 ((byt (m % 256 ^^^ c.toNat) : Nat) : Int) ((m : Int) / 256) = ((upd m c : Nat) : Int) := by
  have := u32_xor_nat (byt (m % 256 ^^^ c.toNat)) (m / 256) (byt_lt (Nat.lt_trans (xor8_lt c) (by decide))) (by omega)
  unfold upd
  rw [← this]; rfl
theorem take_snoc (s : ByteArray) (k : Nat) (h : k < s.size) : s.data.toList.take (k + 1) = s.data.toList.take k ++ [s[k]] := by
  rw [List.take_succ_eq_append_getElem (by simpa using h)]; rfl
theorem take_all (s : ByteArray) (k : Nat) (h : s.size ≤ k) : s.data.toList.take k = s.data.toList :=
  List.take_of_length_le (by simpa using h)
theorem stepped_any (n : Nat) (hn : n < 4294967296) (s : ByteArray) (hs : s.size ≤ maxLen) (w : World) :
    Calls Try.prog 47 #[.int .u32 n, .string s] w fun e w' => e = .returned (.int .u32 (run n s.data.toList)) ∧ w = w' := by
  unfold maxLen at hs
  go_enter Try.func47, Try.ntmps47
  go_wp2
  go_loop [0, 8] (fun x i => ∃ k m : Nat, k ≤ s.size ∧ m = run n (s.data.toList.take k) ∧ x = .int .u32 m ∧ i = .int .i64 k) (fun _ i => s.size - (intOf i).toNat)
  case atStart => exact ⟨0, n, by omega, rfl, rfl, rfl⟩
  case round =>
    obtain ⟨k, m, hk, hm, rfl, rfl⟩ := hrel
    have HM := Lib.hid hm
    have hlt : m < 4294967296 := by rw [hm]; exact run_lt _ hn
    clear hm
    by_cases h8 : k < s.size
    · go_wp2_with (go_at_call 54; refine (number_at (xor8 m s[k]) (xor8_lt _) _).mono ?_; rintro e w' ⟨rfl, rfl⟩)
      go_round
      case rel => exact ⟨k + 1, upd m s[k], by omega, by rw [take_snoc s k h8, run_snoc, ← HM.out], val_int (upd_eq m hlt _), by go_num⟩
      case measure => simp [intOf]; omega
    · go_wp2
      go_ret
      exact ⟨ret_int (by rw [HM.out, take_all s k (by omega)]), rfl⟩
theorem refAdd_any (n : Nat) (hn : n < 4294967296) (s : ByteArray) (hs : s.size ≤ maxLen) (w : World) :
    Calls Try.prog 39 #[.int .u32 n, .string s] w fun e w' => e = .returned (.int .u32 (add n s.data.toList)) ∧ w = w' := by
  unfold maxLen at hs
  go_enter Try.func39, Try.ntmps39
  go_wp2
  go_loop [0, 5] (fun x i => ∃ k m : Nat, k ≤ s.size ∧ m = run (neg32 n) (s.data.toList.take k) ∧ x = .int .u32 m ∧ i = .int .i64 k) (fun _ i => s.size - (intOf i).toNat)
  case atStart => exact ⟨0, neg32 n, by omega, rfl, val_int (by unfold neg32; omega), rfl⟩
  case round =>
    obtain ⟨k, m, hk, hm, rfl, rfl⟩ := hrel
    have HM := Lib.hid hm
    have hlt : m < 4294967296 := by rw [hm]; exact run_lt _ (neg_lt _)
    clear hm
    by_cases h8 : k < s.size
    · go_wp2_with (go_at_call 49; with_reducible refine (byte_at (xor832 m s[k]) (Nat.lt_trans (xor8_lt _) (by decide)) _).mono ?_; rintro e w' ⟨rfl, rfl⟩)
      go_round
      case rel => exact ⟨k + 1, upd m s[k], by omega, by rw [take_snoc s k h8, run_snoc, ← HM.out], val_int (upd_eq m hlt _), by go_num⟩
      case measure => simp [intOf]; omega
    · go_wp2
      go_ret
      refine ⟨ret_int ?_, rfl⟩
      unfold add
      rw [← take_all s k (by omega), ← HM.out]
      unfold neg32; omega


end Go.Proofs.Ytindchneeflgfaa.Crc
