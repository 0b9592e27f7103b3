/-
  The Go text of a reader, walked: numbers in so many bytes, signed numbers, texts. Conditions: as each theorem states.
-/
import Derived.Test.YtgpifihghklgfaaViF
namespace Go.Proofs.Ytgpifihghklgfaa
open Go.RowKit
open Vi

def GaJ (s : ByteArray) (w : World) (a' : Act) (w' : World) : Prop :=
  w = w' ∧ ∃ (i n : Nat) (u5 u6 u7 u8 u9 u10 u11 u12 u13 u14 u15 u16 u17 u18 : Value), a' = { tmps := #[.string s, undef, .int .u64 0, .int .u64 n, .int .i64 i, u5, u6, u7, u8, u9, u10, u11, u12, u13, u14, u15, u16, u17, u18], defers := [] } ∧ i < s.size ∧ n = big (s.data.toList.drop i)
def gaMu (a' : Act) : Nat := (intOf (a'.tmps.getD 4 undef)).toNat
theorem or_low {n : Nat} (c : UInt8) (h : n < 72057594037927936) : bits .or .u64 ((n : Int) * 256) (c.toNat : Int) = ((c.toNat + 256 * n : Nat) : Int) := by
  have hc := c.toNat_lt
  have e : (n : Int) * 256 = ((2 ^ 8 * n : Nat) : Int) := by omega
  rw [e, u64_or_nat _ _ (by omega) (by omega), ← Nat.two_pow_add_eq_or_of_lt hc]
  omega
theorem wrap_byte (c : UInt8) : IntKind.u64.wrap (c.toNat : Int) = (c.toNat : Int) := by
  have hc := c.toNat_lt
  rw [IntKind.wrap_u64]; omega
theorem or_low8 {n : Nat} (c : UInt8) (h : n < 72057594037927936) : bits .or .u64 ((n : Int) * 256) (IntKind.u64.wrap (c.toNat : Int)) = ((c.toNat + 256 * n : Nat) : Int) := by rw [wrap_byte, or_low c h]
theorem or_low0 (c : UInt8) : bits .or .u64 0 (IntKind.u64.wrap (c.toNat : Int)) = ((c.toNat + 256 * 0 : Nat) : Int) := or_low8 (n := 0) c (by decide)
theorem big_drop_lt {s : ByteArray} {i : Nat} (hs : s.size ≤ 8) (hi : 1 ≤ i) : big (s.data.toList.drop i) < 72057594037927936 := by
  have h := big_lt (s.data.toList.drop i)
  have hl : (s.data.toList.drop i).length ≤ 7 := by rw [List.length_drop, size_len]; omega
  exact Nat.lt_of_lt_of_le h (Nat.le_trans (Nat.pow_le_pow_right (by decide) hl) (by decide))
theorem big_drop (s : ByteArray) (i : Nat) (h : i < s.size) : big (s.data.toList.drop i) = s[i].toNat + 256 * big (s.data.toList.drop (i + 1)) := by
  rw [drop_at s i h, big_cons]
theorem gaJ_next {s : ByteArray} {w : World} {i n : Nat} {x y : Int} (h : i < s.size) (hn : Hid (n = big (s.data.toList.drop (i + 1)))) (hx : x = ((s[i].toNat + 256 * n : Nat) : Int)) (hy : y = (i : Int)) (u5 u6 u7 u8 u9 u10 u11 u12 u13 u14 u15 u16 u17 u18 : Value) :
    GaJ s w { tmps := #[.string s, undef, .int .u64 0, .int .u64 x, .int .i64 y, u5, u6, u7, u8, u9, u10, u11, u12, u13, u14, u15, u16, u17, u18], defers := [] } w := by
  refine ⟨rfl, i, s[i].toNat + 256 * n, u5, u6, u7, u8, u9, u10, u11, u12, u13, u14, u15, u16, u17, u18, by rw [hx, hy], h, ?_⟩
  rw [big_drop s i h, ← hn.out]
set_option maxRecDepth 100000 in
set_option maxHeartbeats 1000000 in
theorem gather_any (s : ByteArray) (hs : s.size ≤ 8) (w : World) :
    Calls Try.prog 40 #[.string s] w fun e w' => e = .returned (.int .u64 (big s.data.toList)) ∧ w = w' := by
  go_enter Try.func40, Try.ntmps40
  go_wp2
  refine wp_scope_jumps 0 (GaJ s w) (fun a' _ => gaMu a') rfl ?_ ?_
  · by_cases h0 : s.size = 0
    · have h0' : ((s.size : Int) == 0) = true := by simp [h0]
      have H0 := Lib.hid h0
      clear h0
      go_wp2
      go_step3
      go_wp2
      simp only [Exit.jump]
      go_ret
      exact ⟨ret_int (by rw [show s.data.toList = [] from List.eq_nil_of_length_eq_zero H0.out, big_nil]; rfl), rfl⟩
    · obtain ⟨j, hj⟩ : ∃ j, s.size = j + 1 := ⟨s.size - 1, by omega⟩
      have hj' : j < s.size := by omega
      have e : ((s.size : Int) - 1) = (j : Int) := by omega
      have HJ := Lib.hid hj
      clear hj
      go_wp2
      go_step3
      go_wp2
      go_step3
      refine ⟨rfl, gaJ_next (n := 0) hj' ?_ (or_low0 _) rfl _ _ _ _ _ _ _ _ _ _ _ _ _ _⟩
      show 0 = _
      rw [← HJ.out, drop_all, big_nil]
  · rintro a' w' ⟨rfl, i, n, u5, u6, u7, u8, u9, u10, u11, u12, u13, u14, u15, u16, u17, u18, rfl, hi, hn⟩
    have HN := Lib.hid hn
    clear hn
    by_cases h0 : i = 0
    · subst h0
      go_wp2
      simp only [Exit.jump]
      go_ret
      exact ⟨ret_int (by rw [HN.out]; rfl), rfl⟩
    · obtain ⟨j, rfl⟩ : ∃ j, i = j + 1 := ⟨i - 1, by omega⟩
      have hlt : n < 72057594037927936 := by rw [HN.out]; exact big_drop_lt hs (by omega)
      have hj' : j < s.size := by omega
      go_wp2
      go_step3
      refine ⟨rfl, gaJ_next hj' HN (or_low8 _ hlt) rfl _ _ _ _ _ _ _ _ _ _ _ _ _ _, ?_⟩
      simp [gaMu, intOf]

theorem gather_at {l : List UInt8} {s : ByteArray} (h : s = bs l) (hl : l.length ≤ 8) (w : World) :
    Calls Try.prog 40 #[.string s] w fun e w' => e = .returned (.int .u64 (big l)) ∧ w = w' := by
  subst h; exact gather_any (bs l) (by rw [bs_size]; exact hl) w
theorem dTake_small {l : List UInt8} {at_ : Nat} {err n : Int} (h : n ≤ 8) : (dTake l at_ err n).1.length ≤ 8 := by
  by_cases he : err = 0
  · subst he
    by_cases h2 : n < 0 ∨ (l.length : Int) - at_ < n
    · rw [dTake_short h2]; simp
    · rw [dTake_ok (by omega) (by omega)]; simp; omega
  · rw [dTake_bad he]; simp
theorem wide_nil (w : World) : Calls Try.prog 26 #[.pointer none] w fun e w' => e = .returned (.int .u64 0) ∧ w = w' := by
  go_enter Try.func26, Try.ntmps26
  go_wp2_with (first
    | (go_at_call 41; refine (cut_nil _ _).mono ?_; rintro e w' ⟨rfl, rfl⟩)
    | (go_at_call 40; refine (gather_at (l := []) rfl (by decide) _).mono ?_; rintro e w' ⟨rfl, rfl⟩))
  go_ret
  exact ⟨ret_int (by rw [big_nil]; rfl), rfl⟩
theorem fixed_nil (w : World) : Calls Try.prog 24 #[.pointer none] w fun e w' => e = .returned (.int .u32 0) ∧ w = w' := by
  have hz : big [] = 0 := big_nil
  go_enter Try.func24, Try.ntmps24
  go_wp2_with (first
    | (go_at_call 41; refine (cut_nil _ _).mono ?_; rintro e w' ⟨rfl, rfl⟩)
    | (go_at_call 40; refine (gather_at (l := []) rfl (by decide) _).mono ?_; rintro e w' ⟨rfl, rfl⟩))
  go_ret
  exact ⟨rfl, rfl⟩
theorem rwide_any {w : World} {a : Nat} {s : ByteArray} {at_ : Nat} {err : Int} (h : RdAt 56 w a s at_ err) (hs : s.size ≤ 1000000) (ha : at_ ≤ s.size) :
    Calls Try.prog 26 #[.pointer (some ⟨a, 0, none⟩)] w (RdPost 56 w a s (.int .u64 (big (dTake s.data.toList at_ err 8).1)) (dTake s.data.toList at_ err 8).2) := by
  have hl := dTake_small (l := s.data.toList) (at_ := at_) (err := err) (n := 8) (by omega)
  have HC := cut_any 8 h hs ha
  generalize dTake s.data.toList at_ err 8 = r at hl HC ⊢
  obtain ⟨l2, at2, err2⟩ := r
  have HC := Lib.hid HC
  clear h
  go_enter Try.func26, Try.ntmps26
  go_wp2_with (first
    | (go_at_call 41; refine HC.out.mono ?_; rintro e w1 ⟨rfl, h1, g1⟩; have H1 := Lib.hid h1; clear h1)
    | (go_at_call 40; refine (gather_at (l := l2) rfl hl _).mono ?_; rintro e w' ⟨rfl, rfl⟩))
  go_ret
  exact ⟨rfl, H1.out, g1⟩
theorem rfixed_any {w : World} {a : Nat} {s : ByteArray} {at_ : Nat} {err : Int} (h : RdAt 56 w a s at_ err) (hs : s.size ≤ 1000000) (ha : at_ ≤ s.size) :
    Calls Try.prog 24 #[.pointer (some ⟨a, 0, none⟩)] w (RdPost 56 w a s (.int .u32 (big (dTake s.data.toList at_ err 4).1)) (dTake s.data.toList at_ err 4).2) := by
  have hl := dTake_small (l := s.data.toList) (at_ := at_) (err := err) (n := 4) (by omega)
  have hl4 : big (dTake s.data.toList at_ err 4).1 < 4294967296 := by
    refine Nat.lt_of_lt_of_le (big_lt _) (Nat.le_trans (Nat.pow_le_pow_right (by decide) (show _ ≤ 4 from ?_)) (by decide))
    by_cases he : err = 0
    · subst he
      by_cases h2 : (4 : Int) < 0 ∨ (s.data.toList.length : Int) - at_ < 4
      · rw [dTake_short h2]; simp
      · rw [dTake_ok (by omega) (by omega)]; simp; omega
    · rw [dTake_bad he]; simp
  have HC := cut_any 4 h hs ha
  generalize dTake s.data.toList at_ err 4 = r at hl hl4 HC ⊢
  obtain ⟨l2, at2, err2⟩ := r
  have HC := Lib.hid HC
  clear h
  go_enter Try.func24, Try.ntmps24
  go_wp2_with (first
    | (go_at_call 41; refine HC.out.mono ?_; rintro e w1 ⟨rfl, h1, g1⟩; have H1 := Lib.hid h1; clear h1)
    | (go_at_call 40; refine (gather_at (l := l2) rfl hl _).mono ?_; rintro e w' ⟨rfl, rfl⟩))
  go_ret
  exact ⟨rfl, H1.out, g1⟩

/-! signed numbers -/
theorem wrap64_in {x : Int} (h1 : -9223372036854775808 ≤ x) (h2 : x ≤ 9223372036854775807) : wrap64 x = x := by
  unfold wrap64; omega
theorem and1_64 {n : Nat} (h : n < 18446744073709551616) : bits .and .u64 (n : Int) 1 = ((n % 2 : Nat) : Int) := by
  have := u64_and_nat n 1 h (by decide)
  rw [show n &&& 1 = n % 2 from Nat.and_two_pow_sub_one_eq_mod n 1] at this
  exact this
theorem ofInt_nat64 (a : Nat) (ha : a < 9223372036854775808) : (BitVec.ofInt 64 (a : Int)).toNat = a := by
  rw [BitVec.ofInt_natCast, BitVec.toNat_ofNat]; exact Nat.mod_eq_of_lt (by omega)
theorem xor_i64_zero {a : Nat} (ha : a < 9223372036854775808) : bits .xor .i64 (a : Int) 0 = (a : Int) := by
  show IntKind.i64.wrap ((BitVec.ofInt 64 (a : Int) ^^^ BitVec.ofInt 64 0).toNat : Int) = _
  rw [BitVec.toNat_xor, ofInt_nat64 a ha, show (BitVec.ofInt 64 0).toNat = 0 by decide, Nat.xor_zero, IntKind.wrap_i64]
  omega
theorem xor_i64_ones {a : Nat} (ha : a < 9223372036854775808) : bits .xor .i64 (a : Int) (-1) = -(a : Int) - 1 := by
  show IntKind.i64.wrap ((BitVec.ofInt 64 (a : Int) ^^^ BitVec.ofInt 64 (-1)).toNat : Int) = _
  rw [BitVec.toNat_xor, ofInt_nat64 a ha, show (BitVec.ofInt 64 (-1)).toNat = 18446744073709551615 by decide, xor_ones (by omega), IntKind.wrap_i64]
  omega
theorem zag_bits {n : Nat} (h : n < 18446744073709551616) : bits .xor .i64 ((n : Int) / 2) (wrap64 (-wrap64 (bits .and .u64 (n : Int) 1))) = zag n := by
  rw [and1_64 h, show (n : Int) / 2 = ((n / 2 : Nat) : Int) by omega]
  unfold zag
  rcases Nat.mod_two_eq_zero_or_one n with h2 | h2
  · rw [h2, if_neg (by omega), show wrap64 (-wrap64 ((0 : Nat) : Int)) = 0 by rw [wrap64_in (x := ((0 : Nat) : Int)) (by decide) (by decide)]; exact wrap64_in (by decide) (by decide), xor_i64_zero (by omega)]
  · rw [h2, if_pos rfl, show wrap64 (-wrap64 ((1 : Nat) : Int)) = -1 by rw [wrap64_in (x := ((1 : Nat) : Int)) (by decide) (by decide)]; exact wrap64_in (by decide) (by decide), xor_i64_ones (by omega)]
theorem rsigned_nil (w : World) : Calls Try.prog 20 #[.pointer none] w fun e w' => e = .returned (.int .i64 0) ∧ w = w' := by
  go_enter Try.func20, Try.ntmps20
  go_wp2_with (first
    | (go_at_call 33; refine (rnum_nil _).mono ?_; rintro e w' ⟨rfl, rfl⟩))
  go_ret
  exact ⟨ret_int ((zag_bits (n := 0) (by decide)).trans zag_zero), rfl⟩
theorem rsigned_any {w : World} {a : Nat} {s : ByteArray} {at_ : Nat} {err : Int} (h : RdAt 56 w a s at_ err) (hs : s.size ≤ 1000000) (ha : at_ ≤ s.size) :
    Calls Try.prog 20 #[.pointer (some ⟨a, 0, none⟩)] w (RdPost 56 w a s (.int .i64 (zag (dNum s.data.toList at_ err).1)) (dNum s.data.toList at_ err).2) := by
  have hl := dNum_lt s.data.toList at_ err
  have HC := rnum_any h hs ha
  generalize dNum s.data.toList at_ err = r at hl HC ⊢
  obtain ⟨n, at2, err2⟩ := r
  have hl : n < 18446744073709551616 := hl
  have HC := Lib.hid HC
  clear h
  go_enter Try.func20, Try.ntmps20
  go_wp2_with (first
    | (go_at_call 33; refine HC.out.mono ?_; rintro e w1 ⟨rfl, h1, g1⟩; have H1 := Lib.hid h1; clear h1))
  go_ret
  exact ⟨ret_int (zag_bits hl), H1.out, g1⟩

/-! texts -/
theorem max_nat {n : Int} (h : n ≤ 9223372036854775807) : ∃ m : Nat, max n 0 = (m : Int) ∧ m ≤ 9223372036854775807 := ⟨(max n 0).toNat, by omega, by omega⟩
theorem rtext_nil (n : Int) (hn : n ≤ 9223372036854775807) (w : World) : Calls Try.prog 22 #[.pointer none, .int .i64 n] w fun e w' => e = .returned (.string (bs [])) ∧ Below w.heap.size w w' := by
  obtain ⟨m, hm, hm2⟩ := max_nat hn
  go_enter Try.func22, Try.ntmps22
  go_wp2_with (first
    | (go_at_call 33; refine (rnum_nil _).mono ?_; rintro e w' ⟨rfl, rfl⟩)
    | (go_at_call 27; refine (take_nil _ _).mono ?_; rintro e w' ⟨rfl, hb⟩))
  go_ret
  exact ⟨rfl, hb⟩
def dText (l : List UInt8) (at_ : Nat) (err most : Int) : List UInt8 × Nat × Int :=
  if max most 0 < (dNum l at_ err).1 then ([], dFail (dNum l at_ err).2.1 (dNum l at_ err).2.2 5) else dTake l (dNum l at_ err).2.1 (dNum l at_ err).2.2 (dNum l at_ err).1
theorem rtext_any {w : World} {a : Nat} {s : ByteArray} {at_ : Nat} {err : Int} (most : Int) (hmo : most ≤ 9223372036854775807) (h : RdAt 56 w a s at_ err) (hs : s.size ≤ 1000000) (ha : at_ ≤ s.size) :
    Calls Try.prog 22 #[.pointer (some ⟨a, 0, none⟩), .int .i64 most] w (RdPost 56 w a s (.string (bs (dText s.data.toList at_ err most).1)) (dText s.data.toList at_ err most).2) := by
  have hl := dNum_lt s.data.toList at_ err
  have ha2 := dNum_at (l := s.data.toList) (at_ := at_) (err := err) ha
  have HC := rnum_any h hs ha
  unfold dText
  generalize dNum s.data.toList at_ err = r at hl HC ha2 ⊢
  obtain ⟨n, at2, err2⟩ := r
  obtain ⟨m, hm, hm2⟩ := max_nat hmo
  rw [hm]
  simp only [] at hl ha2 ⊢
  have ha3 : Hid (at2 ≤ s.size) := ha2
  have HC := Lib.hid HC
  clear h ha2
  by_cases hc : m < n
  · rw [if_pos (by omega)]
    go_enter Try.func22, Try.ntmps22
    go_wp2_with (first
      | (go_at_call 33; refine HC.out.mono ?_; rintro e w1 ⟨rfl, h1, g1⟩; have H1 := Lib.hid h1; clear h1)
      | (go_at_call 29; refine (fail_any 5 H1.out).mono ?_; rintro e w2 ⟨rfl, h2, g2⟩; have H2 := Lib.hid h2; clear h2))
    go_ret
    exact ⟨rfl, H2.out, g1.trans g2⟩
  · rw [if_neg (by omega)]
    have hn : n ≤ 9223372036854775807 := by omega
    go_enter Try.func22, Try.ntmps22
    go_wp2_with (first
      | (go_at_call 33; refine HC.out.mono ?_; rintro e w1 ⟨rfl, h1, g1⟩; have H1 := Lib.hid h1; clear h1)
      | (go_at_call 27; refine (take_any n H1.out hs ha3.out).mono ?_; rintro e w2 ⟨rfl, h2, g2⟩; have H2 := Lib.hid h2; clear h2))
    go_ret
    exact ⟨rfl, H2.out, g1.trans g2⟩
theorem dText_at {l : List UInt8} {at_ : Nat} {err most : Int} (h : at_ ≤ l.length) : (dText l at_ err most).2.1 ≤ l.length := by
  have h2 := dNum_at (l := l) (at_ := at_) (err := err) h
  unfold dText
  split
  · show (dFail _ _ _).1 ≤ _
    rw [dFail_at]; exact h2
  · exact dTake_at h2
theorem dText_eq (l : List UInt8) (at_ : Nat) (err most : Int) : dText l at_ err most = if max most 0 < (dNum l at_ err).1 then ([], dFail (dNum l at_ err).2.1 (dNum l at_ err).2.2 5) else dTake l (dNum l at_ err).2.1 (dNum l at_ err).2.2 (dNum l at_ err).1 := rfl
attribute [irreducible] dText
end Go.Proofs.Ytgpifihghklgfaa
