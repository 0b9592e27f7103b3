/-
  The Go text of the number that bytes begin with, walked. Conditions: as each theorem states.
-/
import Derived.Test.YtgpifihghklgfaaViD
namespace Go.Proofs.Ytgpifihghklgfaa
open Go.RowKit
open Vi

def NbJ (s : ByteArray) (w : World) (a' : Act) (w' : World) : Prop :=
  w = w' ∧ ∃ (i n : Nat) (u7 u8 u9 u10 u11 u12 u13 u14 u15 u16 u17 u18 u19 u20 u21 u22 u23 u24 u25 u26 u27 u28 u29 u30 u31 u32 : Value),
    a' = { tmps := #[.string s, undef, .int .u64 0, .int .i64 0, .int .i64 0, .int .u64 n, .int .i64 i, u7, u8, u9, u10, u11, u12, u13, u14, u15, u16, u17, u18, u19, u20, u21, u22, u23, u24, u25, u26, u27, u28, u29, u30, u31, u32, undef, undef, undef, undef, undef, undef, undef, undef], defers := [] } ∧
    1 ≤ i ∧ i ≤ 9 ∧ i ≤ s.size ∧ n < 128 ^ i ∧ rgo (s.data.toList.drop i) i n = rnum s.data.toList
def nbMu (s : ByteArray) (a' : Act) : Nat := s.size - (intOf (a'.tmps.getD 6 undef)).toNat
def rd3 (r : Nat × Nat × Nat) : Value := .tuple #[.int .u64 r.1, .int .i64 r.2.1, .int .i64 r.2.2]

theorem pow_two7 (i : Nat) : (2 : Int) ^ (7 * i) = ((128 ^ i : Nat) : Int) := by
  rw [Int.natCast_pow, Int.pow_mul]; rfl
theorem and127_8 (c : UInt8) : bits .and .u8 (c.toNat : Int) 127 = ((c.toNat % 128 : Nat) : Int) := by
  have h := u8_and_nat c.toNat 127 c.toNat_lt (by decide)
  rw [show c.toNat &&& 127 = c.toNat % 128 from Nat.and_two_pow_sub_one_eq_mod c.toNat 7] at h
  exact h
theorem or_add {n i m : Nat} (h : n < 128 ^ i) : n ||| m * 128 ^ i = n + 128 ^ i * m := by
  have e : (128 : Nat) ^ i = 2 ^ (7 * i) := by rw [Nat.pow_mul]
  rw [e] at h ⊢
  have := Nat.two_pow_add_eq_or_of_lt h m
  rw [Nat.mul_comm m, Nat.or_comm, ← this, Nat.add_comm]
theorem acc_any {n i : Nat} {c : UInt8} (hn : Hid (n < 128 ^ i)) (hi : i ≤ 9) (h9 : i = 9 → c.toNat ≤ 1) :
    bits .or .u64 (n : Int) (IntKind.u64.wrap (IntKind.u64.wrap (bits .and .u8 (c.toNat : Int) 127) * 2 ^ (7 * i))) = ((n + 128 ^ i * (c.toNat % 128) : Nat) : Int) := by
  rw [and127_8, pow_two7]
  have hp := pow_le hi
  have hc := c.toNat_lt
  have hle : (c.toNat % 128) * 128 ^ i < 18446744073709551616 := by
    by_cases e : i = 9
    · subst e
      have h1 := h9 rfl
      have : c.toNat % 128 ≤ 1 := by omega
      have := Nat.mul_le_mul_right (128 ^ 9) this
      rw [pow9] at *; omega
    · have := pow_le8 (i := i) (by omega)
      have h2 : c.toNat % 128 ≤ 127 := by omega
      have := Nat.mul_le_mul h2 this
      omega
  have e1 : IntKind.u64.wrap ((c.toNat % 128 : Nat) : Int) = ((c.toNat % 128 : Nat) : Int) := by rw [IntKind.wrap_u64]; omega
  have e2 : IntKind.u64.wrap (((c.toNat % 128 : Nat) : Int) * ((128 ^ i : Nat) : Int)) = (((c.toNat % 128) * 128 ^ i : Nat) : Int) := by
    rw [IntKind.wrap_u64, ← Int.natCast_mul]; omega
  rw [e1, e2, u64_or_nat _ _ (by have := hn.out; omega) hle, or_add hn.out]
theorem acc_none {c : UInt8} : bits .or .u64 0 (IntKind.u64.wrap (IntKind.u64.wrap (bits .and .u8 (c.toNat : Int) 127))) = ((0 + 128 ^ 0 * (c.toNat % 128) : Nat) : Int) := by
  have := acc_any (n := 0) (i := 0) (c := c) (by show (0:Nat) < 128 ^ 0; decide) (by omega) (by omega)
  simpa using this
theorem drop_at (s : ByteArray) (i : Nat) (h : i < s.size) : s.data.toList.drop i = s[i] :: s.data.toList.drop (i + 1) := by
  rw [List.drop_eq_getElem_cons (by simpa using h)]; rfl
theorem drop_all (s : ByteArray) : s.data.toList.drop s.size = [] := List.drop_of_length_le (Nat.le_refl _)
theorem nbJ_next {s : ByteArray} {w : World} {i n : Nat} {x y : Int} (hi : i < 9) (h : i < s.size) (HN : Hid (n < 128 ^ i)) (HR : Hid (rgo (s.data.toList.drop i) i n = rnum s.data.toList)) (hc : 128 ≤ (s[i].toNat : Int))
    (hx : x = ((n + 128 ^ i * (s[i].toNat % 128) : Nat) : Int)) (hy : y = ((i + 1 : Nat) : Int)) (u7 u8 u9 u10 u11 u12 u13 u14 u15 u16 u17 u18 u19 u20 u21 u22 u23 u24 u25 u26 u27 u28 u29 u30 u31 u32 : Value) :
    NbJ s w { tmps := #[.string s, undef, .int .u64 0, .int .i64 0, .int .i64 0, .int .u64 x, .int .i64 y, u7, u8, u9, u10, u11, u12, u13, u14, u15, u16, u17, u18, u19, u20, u21, u22, u23, u24, u25, u26, u27, u28, u29, u30, u31, u32, undef, undef, undef, undef, undef, undef, undef, undef], defers := [] } w := by
  refine ⟨rfl, i + 1, n + 128 ^ i * (s[i].toNat % 128), u7, u8, u9, u10, u11, u12, u13, u14, u15, u16, u17, u18, u19, u20, u21, u22, u23, u24, u25, u26, u27, u28, u29, u30, u31, u32, by rw [hx, hy], by omega, by omega, by omega, ?_, ?_⟩
  · have hm : s[i].toNat % 128 ≤ 127 := by omega
    have := Nat.mul_le_mul_left (128 ^ i) hm
    have := HN.out
    rw [Nat.pow_succ]; omega
  · rw [← HR.out, drop_at s i h, rgo_more hi (by omega)]
theorem ret_three {l : List UInt8} {a b c : Nat} {x y z : Int} (h : rnum l = (a, b, c)) (hx : x = a) (hy : y = b) (hz : z = c) :
    Ending.returned (.tuple #[.int .u64 x, .int .i64 y, .int .i64 z]) = .returned (rd3 (rnum l)) := by rw [h, hx, hy, hz]; rfl
theorem rnum_at0 {s : ByteArray} (h : 0 < s.size) : rnum s.data.toList = rgo (s[0] :: s.data.toList.drop 1) 0 0 := by
  rw [← drop_at s 0 h, rnum_eq, List.drop_zero]
set_option maxRecDepth 100000 in
set_option maxHeartbeats 4000000 in
theorem number_any (s : ByteArray) (hs : s.size ≤ 1000000) (w : World) :
    Calls Try.prog 43 #[.string s] w fun e w' => e = .returned (rd3 (rnum s.data.toList)) ∧ w = w' := by
  go_enter Try.func43, Try.ntmps43
  go_wp2
  refine wp_scope_jumps 0 (NbJ s w) (fun a' _ => nbMu s a') rfl ?_ ?_
  · go_wp2
    go_step3
    by_cases h0 : s.size = 0
    · have h0' : ((0 : Int) == (s.size : Int)) = true := by simp [h0]
      have H0 := Lib.hid h0
      clear h0
      go_wp2
      simp only [Exit.jump]
      go_ret3
      exact ⟨ret_three (a := 0) (b := 0) (c := 3) (by rw [show s.data.toList = [] from List.eq_nil_of_length_eq_zero H0.out, rnum_eq, rgo_nil]) rfl rfl rfl, rfl⟩
    · have hp : 0 < s.size := by omega
      go_wp2
      · have hc : 128 ≤ (s[0].toNat : Int) := by assumption
        go_step3
        refine ⟨rfl, nbJ_next (i := 0) (n := 0) (by omega) hp (by show (0:Nat) < 128 ^ 0; decide) (by show _ = _; rw [rnum_eq, List.drop_zero]) hc acc_none rfl _ _ _ _ _ _ _ _ _ _ _ _ _ _ _ _ _ _ _ _ _ _ _ _ _ _⟩
      · have hz : s[0].toNat = 0 := by assumption
        simp only [Exit.jump]
        go_ret3
        exact ⟨ret_three (a := 0) (b := 1) (c := 0) (by rw [rnum_at0 hp, rgo_last (by omega) (by omega) (by omega), hz]) (by decide +kernel) rfl rfl, rfl⟩
      · have hc : (s[0].toNat : Int) < 128 := by assumption
        simp only [Exit.jump]
        go_ret3
        exact ⟨ret_three (a := s[0].toNat) (b := 1) (c := 0) (by rw [rnum_at0 hp, rgo_last (by omega) (by omega) (by omega)]; simp) (by rw [acc_none]; simp; omega) rfl rfl, rfl⟩
  · rintro a' w' ⟨rfl, i, n, u7, u8, u9, u10, u11, u12, u13, u14, u15, u16, u17, u18, u19, u20, u21, u22, u23, u24, u25, u26, u27, u28, u29, u30, u31, u32, rfl, hi1, hi9, his, hn, hr⟩
    have HR := Lib.hid hr
    have HN := Lib.hid hn
    clear hr hn
    by_cases h0 : i = s.size
    · have h0' : ((i : Int) == (s.size : Int)) = true := by simp [h0]
      have H0 := Lib.hid h0
      clear h0
      go_wp2
      simp only [Exit.jump]
      go_ret3
      exact ⟨ret_three (a := 0) (b := 0) (c := 3) (by rw [← HR.out, H0.out, drop_all, rgo_nil]) rfl rfl rfl, rfl⟩
    · have h0' : i < s.size := by omega
      by_cases h9 : i = 9
      · have h9' : ((i : Int) == 9) = true := by simp; omega
        have H9 := Lib.hid h9
        clear h9
        by_cases hc : 1 < s[i].toNat
        · go_wp2
          simp only [Exit.jump]
          go_ret3
          exact ⟨ret_three (a := 0) (b := 0) (c := 8) (by rw [← HR.out, drop_at s i h0', rgo_range H9.out hc]) rfl rfl rfl, rfl⟩
        · have hc1 : s[i].toNat ≤ 1 := by omega
          go_wp2
          · have hz : s[i].toNat = 0 := by assumption
            simp only [Exit.jump]
            go_ret3
            exact ⟨ret_three (a := 0) (b := 0) (c := 4) (by rw [← HR.out, drop_at s i h0', rgo_form (by omega) hz]) rfl rfl rfl, rfl⟩
          · have hz : ¬ s[i].toNat = 0 := by assumption
            simp only [Exit.jump]
            go_ret3
            exact ⟨ret_three (a := n + 128 ^ i * s[i].toNat) (b := i + 1) (c := 0) (by rw [← HR.out, drop_at s i h0', rgo_last (.inr hc1) (by omega) (.inl hz)]) (by rw [acc_any HN (by omega) (fun _ => hc1), Nat.mod_eq_of_lt (by omega)]) rfl rfl, rfl⟩
      · go_wp2
        · have hc : 128 ≤ (s[i].toNat : Int) := by assumption
          go_step3
          refine ⟨rfl, nbJ_next (by omega) h0' HN HR hc (acc_any HN (by omega) (by omega)) rfl _ _ _ _ _ _ _ _ _ _ _ _ _ _ _ _ _ _ _ _ _ _ _ _ _ _, ?_⟩
          simp [nbMu, intOf]; omega
        · have hz : s[i].toNat = 0 := by assumption
          simp only [Exit.jump]
          go_ret3
          exact ⟨ret_three (a := 0) (b := 0) (c := 4) (by rw [← HR.out, drop_at s i h0', rgo_form (by omega) hz]) rfl rfl rfl, rfl⟩
        · have hc : (s[i].toNat : Int) < 128 := by assumption
          have hz : ¬ s[i].toNat = 0 := by assumption
          simp only [Exit.jump]
          go_ret3
          exact ⟨ret_three (a := n + 128 ^ i * s[i].toNat) (b := i + 1) (c := 0) (by rw [← HR.out, drop_at s i h0', rgo_last (by omega) (by omega) (by omega)]) (by rw [acc_any HN (by omega) (by omega), Nat.mod_eq_of_lt (by omega)]) rfl rfl, rfl⟩
end Go.Proofs.Ytgpifihghklgfaa
