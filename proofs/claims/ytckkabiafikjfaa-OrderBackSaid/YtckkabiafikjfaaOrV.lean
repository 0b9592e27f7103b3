/-
  The Go text that writes numbers, walked: Num, Signed. Conditions: as each theorem states.
-/
import Derived.Test.YtckkabiafikjfaaRows
import Derived.Test.YtckkabiafikjfaaShelf
import Derived.Test.YtckkabiafikjfaaViMath
import Derived.WalkKit
import Derived.ProofKit
import Derived.OpenShut
import Derived.Lib.Hide
import Derived.Lib.BufSteps
import Derived.Lib.SmallJoins
import Derived.Laws.IdiomStrings
import Derived.Outline
import Derived.WalkMore
import Derived.ScopeJumps
namespace Go.Proofs.Ytckkabiafikjfaa
open Go.RowKit
open Vi

/-! texts, and bytes in memory -/
def bs (l : List UInt8) : ByteArray := ⟨l.toArray⟩
theorem bs_toList (l : List UInt8) : (bs l).data.toList = l := rfl
theorem bs_of (s : ByteArray) : bs s.data.toList = s := by cases s; rfl
theorem bs_size (l : List UInt8) : (bs l).size = l.length := by simp [bs, ByteArray.size]
theorem bs_append (a b : List UInt8) : bs a ++ bs b = bs (a ++ b) := by simp only [bs]; rw [ByteArray.mk_append_mk]
theorem ret_str {a b : List UInt8} (h : a = b) : Ending.returned (.string (bs a)) = .returned (.string (bs b)) := by rw [h]
theorem ret_int {k : IntKind} {a b : Int} (h : a = b) : Ending.returned (.int k a) = .returned (.int k b) := by rw [h]
theorem val_int {k : IntKind} {a b : Int} (h : a = b) : Value.int k a = .int k b := by rw [h]
def byteCells (l : List UInt8) : List Value := l.map fun b => Value.int .u8 (b.toNat : Int)
theorem byteCells_snoc (l : List UInt8) (c : UInt8) : byteCells l ++ [.int .u8 (c.toNat : Int)] = byteCells (l ++ [c]) := by simp [byteCells]
theorem byteCells_len (l : List UInt8) : (byteCells l).length = l.length := by simp [byteCells]
theorem info5 : (Try.prog.info? 5).map (fun i => (i.zero, i.size, i.bytes)) = some (some (.int .u8 0), 1, 1) := by kernel_rfl
theorem own_string {B : Nat} {v : Value} {n : Nat} {l : List UInt8} {W0 w : World} (h : Lib.OwnBuf B 5 v n (byteCells l) W0 w) :
    (convert 61 9 v).run Try.prog w = .ok (.string (bs l)) w := by
  obtain ⟨⟨hlen, hrow⟩, _, _⟩ := h
  rw [byteCells_len] at hlen
  rcases hrow with ⟨rfl, rfl⟩ | ⟨g, cap, cur, fz, rfl, hb, hg, _, _, _, _, htake⟩
  · have : l = [] := List.eq_nil_of_length_eq_zero (by omega)
    subst this
    exact run_convert_bytes_nil w _ 5 Try.underlying61 Try.underlying5 0 0 _ Try.underlying9
  · have hn : n = l.length := by omega
    subst hn
    refine run_convert_bytes_back w _ _ 5 ⟨g, 0, none⟩ cap l Try.underlying61 Try.underlying5 Try.underlying9 ?_
    intro j hj
    have hadd : (⟨g, 0, none⟩ : Addr).add j = ⟨g, j, none⟩ := by unfold Addr.add; split <;> simp_all
    rw [hadd, cell_of_row w g j cur _ fz hg]
    have h2 : (cur.toList.take (l.length * 1))[j]? = some (.int .u8 (l[j].toNat : Int)) := by
      rw [htake]; simp [byteCells, hj]
    rw [List.getElem?_take] at h2
    split at h2
    · simpa using h2
    · cases h2
def NumJ (n : Nat) (w : World) (a' : Act) (w' : World) : Prop :=
  ∃ (m : Nat) (l : List UInt8) (v u4 u5 u6 u7 u8 u9 u10 u11 u12 u13 u14 u15 : Value), l ++ vnum m = vnum n ∧ m < 18446744073709551616 ∧ Lib.OwnBuf w.heap.size 5 v l.length (byteCells l) w w' ∧
    a' = { tmps := #[.int .u64 m, undef, .string ⟨#[]⟩, v, u4, u5, u6, u7, u8, u9, u10, u11, u12, u13, u14, u15, undef, undef, undef, undef, undef, undef], defers := [] }
def numMu (a' : Act) : Nat := (intOf (a'.tmps.getD 0 undef)).toNat
theorem and127 {m : Nat} (h : m < 18446744073709551616) : bits .and .u64 (m : Int) 127 = ((m % 128 : Nat) : Int) := by
  have := u64_and_nat m 127 h (by decide)
  rw [show m &&& 127 = m % 128 from Nat.and_two_pow_sub_one_eq_mod m 7] at this
  exact this
theorem or128 {m : Nat} (h : m < 128) : bits .or .u64 (m : Int) 128 = ((m + 128 : Nat) : Int) := by
  have := u64_or_nat m 128 (by omega) (by decide)
  rw [show m ||| 128 = m + 128 from by
    have := Nat.two_pow_add_eq_or_of_lt (i := 7) (b := m) h 1
    rw [Nat.or_comm]; simp at this; omega] at this
  exact this
theorem shr7 {m : Nat} : (m : Int) / 128 = ((m / 128 : Nat) : Int) := by omega
theorem numJ_next {n m : Nat} {l : List UInt8} {w w2 : World} {v2 : Value} (h : Hid (l ++ vnum m = vnum n)) (hm : ¬ m < 128) (hlt : m < 18446744073709551616)
    (hb2 : Lib.OwnBuf w.heap.size 5 v2 (l.length + 1) (byteCells l ++ [.int .u8 (bits .or .u64 ((m : Int) % 128) 128 % 256)]) w w2) (u4 u5 u6 u7 u8 u9 u10 u11 u12 u13 u14 u15 : Value) :
    NumJ n w { tmps := #[.int .u64 ((m : Int) / 128), undef, .string ⟨#[]⟩, v2, u4, u5, u6, u7, u8, u9, u10, u11, u12, u13, u14, u15, undef, undef, undef, undef, undef, undef], defers := [] } w2 := by
  have hor := or128 (m := m % 128) (by omega)
  have e : ((m % 128 : Nat) : Int) = (m : Int) % 128 := by omega
  rw [e] at hor
  have e2 : bits .or .u64 ((m : Int) % 128) 128 % 256 = (((UInt8.ofNat (m % 128 + 128)).toNat : Nat) : Int) := by rw [hor, toNat_of (by omega)]; omega
  rw [e2, byteCells_snoc] at hb2
  refine ⟨m / 128, l ++ [UInt8.ofNat (m % 128 + 128)], v2, u4, u5, u6, u7, u8, u9, u10, u11, u12, u13, u14, u15, ?_, by omega, ?_, ?_⟩
  · rw [← h.out, vnum_big (n := m) (by omega)]; simp
  · rw [List.length_append]; exact hb2
  · rw [shr7]
theorem num_end {m : Nat} {l : List UInt8} {w w2 : World} {v2 : Value} (hm : m < 128)
    (hb2 : Lib.OwnBuf w.heap.size 5 v2 (l.length + 1) (byteCells l ++ [.int .u8 (m : Int)]) w w2) :
    (convert 61 9 v2).run Try.prog w2 = .ok (.string (bs (l ++ vnum m))) w2 := by
  have e : (m : Int) = (((UInt8.ofNat m).toNat : Nat) : Int) := by rw [toNat_of (by omega)]
  rw [e, byteCells_snoc] at hb2
  rw [vnum_small hm]
  exact own_string hb2
set_option maxHeartbeats 1000000 in
theorem num_any (n : Nat) (hn : n < 18446744073709551616) (w : World) :
    Calls Try.prog 20 #[.int .u64 n] w fun e w' => e = .returned (.string (bs (vnum n))) ∧ Below w.heap.size w w' := by
  obtain ⟨i0, hi0, hz0, hz1, hz2⟩ := info_parts info5
  go_enter Try.func20, Try.ntmps20
  go_wp2
  refine wp_scope_jumps 0 (NumJ n w) (fun a' _ => numMu a') rfl ?_ ?_
  · go_wp2_with (with_reducible refine wpList_make_own _ rfl _ _ 61 rfl w.heap.size 5 i0 (.int .u8 0) 1 Try.underlying61 hi0 hz0 hz1 .i64 .i64 10 10 rfl rfl rfl (by omega) (by decide) (Nat.le_refl _) ?_)
    intro w1 hown hg
    have hb : Lib.OwnBuf w.heap.size 5 (.slice (some ⟨w.heap.size, 0, none⟩) 0 10) ([] : List UInt8).length (byteCells []) w w1 := ⟨World.ownsRowF_of hown, (Below.refl _ _).grown hg (Nat.le_refl _) (by simp), hg.size⟩
    clear hown hg
    by_cases hs : n < 128
    · go_wp2
      go_step3
      go_wp2_with (first
        | (at_builtin
           refine Lib.wpList_append_byte rfl (.tmp 16) (.tmp 19) 61 rfl w.heap.size 5 i0 Try.underlying61 hi0 hz0 hz1 hz2 _ _ _ rfl w _ _ hb rfl (by decide) ?_
           intro v2 w2 hb2
           have hcv := num_end hs hb2
           clear hb))
      simp only [Exit.jump]
      go_ret
      exact ⟨ret_str rfl, hb2.2.1⟩
    · have hand := and127 hn
      go_wp2
      go_step3
      go_wp2_with (first
        | (at_builtin
           refine Lib.wpList_append_byte rfl (.tmp 7) (.tmp 12) 61 rfl w.heap.size 5 i0 Try.underlying61 hi0 hz0 hz1 hz2 _ _ _ rfl w _ _ hb rfl (by decide) ?_
           intro v2 w2 hb2
           clear hb))
      go_step3
      exact ⟨rfl, numJ_next (l := []) rfl hs hn hb2 _ _ _ _ _ _ _ _ _ _ _ _⟩
  · rintro a' w1 ⟨m, l, v, u4, u5, u6, u7, u8, u9, u10, u11, u12, u13, u14, u15, hl, hm, hb, rfl⟩
    have hle : l.length ≤ 10 := by have := vnum_len10 hn; rw [← hl] at this; simp at this; omega
    have HL := Lib.hid hl
    clear hl
    by_cases hs : m < 128
    · go_wp2_with (first
        | (at_builtin
           refine Lib.wpList_append_byte rfl (.tmp 16) (.tmp 19) 61 rfl w.heap.size 5 i0 Try.underlying61 hi0 hz0 hz1 hz2 _ _ _ rfl w _ _ hb rfl (by omega) ?_
           intro v2 w2 hb2
           have hcv := num_end hs hb2
           clear hb))
      simp only [Exit.jump]
      go_ret
      exact ⟨ret_str HL.out, hb2.2.1⟩
    · have hand := and127 hm
      go_wp2_with (first
        | (at_builtin
           refine Lib.wpList_append_byte rfl (.tmp 7) (.tmp 12) 61 rfl w.heap.size 5 i0 Try.underlying61 hi0 hz0 hz1 hz2 _ _ _ rfl w _ _ hb rfl (by omega) ?_
           intro v2 w2 hb2
           clear hb))
      go_step3
      refine ⟨rfl, numJ_next HL hs hm hb2 _ _ _ _ _ _ _ _ _ _ _ _, ?_⟩
      simp [numMu, intOf]; omega
theorem num_at {x : Int} {n : Nat} (hx : x = n) (hn : n < 18446744073709551616) (w : World) :
    Calls Try.prog 20 #[.int .u64 x] w fun e w' => e = .returned (.string (bs (vnum n))) ∧ Below w.heap.size w w' := by
  subst hx; exact num_any n hn w
theorem xor_ones {a : Nat} (h : a < 18446744073709551616) : a ^^^ 18446744073709551615 = 18446744073709551615 - a := by
  have h1 : (BitVec.ofNat 64 a ^^^ BitVec.allOnes 64).toNat = 18446744073709551615 - a := by
    rw [BitVec.xor_allOnes, BitVec.toNat_not, BitVec.toNat_ofNat, Nat.mod_eq_of_lt h]
  rw [BitVec.toNat_xor, BitVec.toNat_ofNat, Nat.mod_eq_of_lt h] at h1
  exact h1
theorem zig_neg {m : Int} (h1 : -9223372036854775808 ≤ m) (h : m < 0) :
    bits .xor .u64 (IntKind.u64.wrap (IntKind.u64.wrap m * 2)) (IntKind.u64.wrap (m / 9223372036854775808)) = ((zig m : Nat) : Int) := by
  obtain ⟨a, rfl⟩ : ∃ a : Nat, m = (a : Int) - 9223372036854775808 := ⟨(m + 9223372036854775808).toNat, by omega⟩
  have e1 : IntKind.u64.wrap (IntKind.u64.wrap ((a : Int) - 9223372036854775808) * 2) = ((2 * a : Nat) : Int) := by simp only [IntKind.wrap_u64]; omega
  have e2 : IntKind.u64.wrap (((a : Int) - 9223372036854775808) / 9223372036854775808) = ((18446744073709551615 : Nat) : Int) := by simp only [IntKind.wrap_u64]; omega
  rw [e1, e2, u64_xor_nat _ _ (by omega) (by decide), xor_ones (by omega)]
  unfold zig; rw [if_pos h]; omega
theorem zig_pos {m : Int} (h2 : m ≤ 9223372036854775807) (h : 0 ≤ m) : bits .xor .u64 (m * 2) (m / 9223372036854775808) = ((zig m : Nat) : Int) := by
  obtain ⟨a, rfl⟩ : ∃ a : Nat, m = (a : Int) := ⟨m.toNat, by omega⟩
  have e1 : (a : Int) * 2 = ((2 * a : Nat) : Int) := by omega
  have e2 : (a : Int) / 9223372036854775808 = ((0 : Nat) : Int) := by omega
  rw [e1, e2, u64_xor_nat _ _ (by omega) (by decide), Nat.xor_zero]
  unfold zig; rw [if_neg (by omega)]; omega
theorem signed_any (m : Int) (h1 : -9223372036854775808 ≤ m) (h2 : m ≤ 9223372036854775807) (w : World) :
    Calls Try.prog 21 #[.int .i64 m] w fun e w' => e = .returned (.string (bs (vnum (zig m)))) ∧ Below w.heap.size w w' := by
  by_cases hs : m < 0
  · go_enter Try.func21, Try.ntmps21
    go_wp2_with (go_at_call 20; refine (num_at (n := zig m) (zig_neg h1 hs) (zig_lt h1 h2) _).mono ?_; rintro e w' ⟨rfl, hb⟩)
    go_ret
    exact ⟨rfl, hb⟩
  · go_enter Try.func21, Try.ntmps21
    go_wp2_with (go_at_call 20; refine (num_at (n := zig m) (zig_pos h2 (by omega)) (zig_lt h1 h2) _).mono ?_; rintro e w' ⟨rfl, hb⟩)
    go_ret
    exact ⟨rfl, hb⟩

end Go.Proofs.Ytckkabiafikjfaa
