/-
  The document's Go text that writes numbers, walked: Num, Signed, Text, Little; and the project's Signed, Text, Fixed, Wide, Len. Conditions: as each theorem states.
-/
import Derived.Test.YtgpifihghklgfaaViA
import Derived.Lib.SmallJoins
namespace Go.Proofs.Ytgpifihghklgfaa
open Go.RowKit
open Vi

theorem one_byte (W : World) (c : Int) : (convert 53 9 (.slice (some ⟨W.heap.size, 0, none⟩) 1 1)).run Try.prog (W.alloc (.cells #[.int .u8 c] 5)) =
    .ok (.string (bs [UInt8.ofNat c.toNat])) (W.alloc (.cells #[.int .u8 c] 5)) := by
  rw [run_convert_bytes_string _ _ _ 5 _ _ _ Try.underlying53 Try.underlying5 Try.underlying9]
  have hl := run_loadCells_list (P := Try.prog) (W.alloc (.cells #[.int .u8 c] 5)) ⟨W.heap.size, 0, none⟩ ([c].map (Value.int .u8)) (fun j v hj => by
    match j, hj with
    | 0, hj => simp at hj; subst hj; simp [Addr.add])
  rw [run_bytesToString _ _ 1 1 [c] hl]
  rfl

theorem low_byte (m : Nat) : 128 + UInt8.ofNat (m % 128) = UInt8.ofNat (m % 128 + 128) := by
  apply UInt8.toNat_inj.mp; simp; omega

set_option maxHeartbeats 1000000 in
theorem refNum_any (n : Nat) (hn : n < 18446744073709551616) (w : World) :
    Calls Try.prog 10 #[.int .u64 n] w fun e w' => e = .returned (.string (bs (vnum n))) ∧ Below w.heap.size w w' := by
  go_enter Try.func10, Try.ntmps10
  go_wp2
  go_loopw [0, 3] (fun x s wr => ∃ (m : Nat) (l : List UInt8), l ++ vnum m = vnum n ∧ m ≤ n ∧ x = .int .u64 m ∧ s = .string (bs l) ∧ Below w.heap.size w wr) (fun x _ _ => (intOf x).toNat)
  case atStart => exact ⟨n, [], rfl, Nat.le_refl _, rfl, rfl, Below.refl _ _⟩
  case round =>
    obtain ⟨m, l, hl, hm, rfl, rfl, hb⟩ := hrel
    have hle : l.length ≤ 10 := by have := vnum_len10 hn; rw [← hl] at this; simp at this; omega
    have HL := Lib.hid hl
    clear hl
    have hob := one_byte
    have hbz := bs_size
    have hba := bs_append
    by_cases hs : m < 128
    · go_wp2
      go_ret
      exact ⟨ret_str (by rw [← HL.out, vnum_small hs]), hb.alloc hb.size _⟩
    · go_wp2
      go_roundw
      case rel => exact ⟨m / 128, l ++ [UInt8.ofNat (m % 128 + 128)], by rw [← HL.out, vnum_big (n := m) (by omega)]; simp, by omega, by rw [shr7], by rw [low_byte], hb.alloc hb.size _⟩
      case measure => simp [intOf]; omega

theorem num_at {x : Int} {n : Nat} (hx : x = n) (hn : n < 18446744073709551616) (w : World) :
    Calls Try.prog 9 #[.int .u64 x] w fun e w' => e = .returned (.string (bs (vnum n))) ∧ Below w.heap.size w w' := by
  subst hx; exact num_any n hn w
theorem refNum_at {x : Int} {n : Nat} (hx : x = n) (hn : n < 18446744073709551616) (w : World) :
    Calls Try.prog 10 #[.int .u64 x] w fun e w' => e = .returned (.string (bs (vnum n))) ∧ Below w.heap.size w w' := by
  subst hx; exact refNum_any n hn w

theorem xor_ones {a : Nat} (h : a < 18446744073709551616) : a ^^^ 18446744073709551615 = 18446744073709551615 - a := by
  have h1 : (BitVec.ofNat 64 a ^^^ BitVec.allOnes 64).toNat = 18446744073709551615 - a := by
    rw [BitVec.xor_allOnes, BitVec.toNat_not, BitVec.toNat_ofNat, Nat.mod_eq_of_lt h]
  rw [BitVec.toNat_xor, BitVec.toNat_ofNat, Nat.mod_eq_of_lt h] at h1
  exact h1
theorem zig_neg {m : Int} (h1 : -9223372036854775808 ≤ m) (h : m < 0) :
    bits .xor .u64 (IntKind.u64.wrap (IntKind.u64.wrap m * 2)) (IntKind.u64.wrap (m / 9223372036854775808)) = ((zig m : Nat) : Int) := by
  obtain ⟨a, rfl⟩ : ∃ a : Nat, m = (a : Int) - 9223372036854775808 := ⟨(m + 9223372036854775808).toNat, by omega⟩
  have e1 : IntKind.u64.wrap (IntKind.u64.wrap ((a : Int) - 9223372036854775808) * 2) = ((2 * a : Nat) : Int) := by simp only [IntKind.wrap_u64]; omega
  have e2 : IntKind.u64.wrap (((a : Int) - 9223372036854775808) / 9223372036854775808) = ((18446744073709551615 : Nat) : Int) := by simp only [IntKind.wrap_u64]; omega
  rw [e1, e2, u64_xor_nat _ _ (by omega) (by decide), xor_ones (by omega)]
  unfold zig; rw [if_pos h]; omega
theorem zig_pos {m : Int} (h2 : m ≤ 9223372036854775807) (h : 0 ≤ m) : bits .xor .u64 (m * 2) (m / 9223372036854775808) = ((zig m : Nat) : Int) := by
  obtain ⟨a, rfl⟩ : ∃ a : Nat, m = (a : Int) := ⟨m.toNat, by omega⟩
  have e1 : (a : Int) * 2 = ((2 * a : Nat) : Int) := by omega
  have e2 : (a : Int) / 9223372036854775808 = ((0 : Nat) : Int) := by omega
  rw [e1, e2, u64_xor_nat _ _ (by omega) (by decide), Nat.xor_zero]
  unfold zig; rw [if_neg (by omega)]; omega
theorem signed_any (m : Int) (h1 : -9223372036854775808 ≤ m) (h2 : m ≤ 9223372036854775807) (w : World) :
    Calls Try.prog 11 #[.int .i64 m] w fun e w' => e = .returned (.string (bs (vnum (zig m)))) ∧ Below w.heap.size w w' := by
  by_cases hs : m < 0
  · go_enter Try.func11, Try.ntmps11
    go_wp2_with (go_at_call 9; refine (num_at (n := zig m) (zig_neg h1 hs) (zig_lt h1 h2) _).mono ?_; rintro e w' ⟨rfl, hb⟩)
    go_ret
    exact ⟨rfl, hb⟩
  · go_enter Try.func11, Try.ntmps11
    go_wp2_with (go_at_call 9; refine (num_at (n := zig m) (zig_pos h2 (by omega)) (zig_lt h1 h2) _).mono ?_; rintro e w' ⟨rfl, hb⟩)
    go_ret
    exact ⟨rfl, hb⟩
theorem refSigned_any (m : Int) (h1 : -9223372036854775808 ≤ m) (h2 : m ≤ 9223372036854775807) (w : World) :
    Calls Try.prog 12 #[.int .i64 m] w fun e w' => e = .returned (.string (bs (vnum (zig m)))) ∧ Below w.heap.size w w' := by
  by_cases hs : m < 0
  · go_enter Try.func12, Try.ntmps12
    go_wp2_with (go_at_call 10; refine (refNum_at (n := zig m) (by unfold zig; rw [if_pos hs]; omega) (zig_lt h1 h2) _).mono ?_; rintro e w' ⟨rfl, hb⟩)
    go_ret
    exact ⟨rfl, hb⟩
  · go_enter Try.func12, Try.ntmps12
    go_wp2_with (go_at_call 10; refine (refNum_at (n := zig m) (by unfold zig; rw [if_neg hs]; omega) (zig_lt h1 h2) _).mono ?_; rintro e w' ⟨rfl, hb⟩)
    go_ret
    exact ⟨rfl, hb⟩
theorem text_any (s : ByteArray) (hs : s.size ≤ 1000000) (w : World) :
    Calls Try.prog 13 #[.string s] w fun e w' => e = .returned (.string (bs (vnum s.size ++ s.data.toList))) ∧ Below w.heap.size w w' := by
  go_enter Try.func13, Try.ntmps13
  go_wp2_with (go_at_call 9; refine (num_at (n := s.size) (by omega) (by omega) _).mono ?_; rintro e w' ⟨rfl, hb⟩; have hbz := bs_size; have hle := vnum_len10 (n := s.size) (by omega))
  go_ret
  exact ⟨by rw [← bs_append, bs_of]; rfl, hb⟩
theorem refText_any (s : ByteArray) (hs : s.size ≤ 1000000) (w : World) :
    Calls Try.prog 14 #[.string s] w fun e w' => e = .returned (.string (bs (vnum s.size ++ s.data.toList))) ∧ Below w.heap.size w w' := by
  go_enter Try.func14, Try.ntmps14
  go_wp2_with (go_at_call 10; refine (refNum_at (n := s.size) (by omega) (by omega) _).mono ?_; rintro e w' ⟨rfl, hb⟩; have hbz := bs_size; have hle := vnum_len10 (n := s.size) (by omega))
  go_ret
  exact ⟨by rw [← bs_append, bs_of]; rfl, hb⟩
end Go.Proofs.Ytgpifihghklgfaa
