/-
  The Go text of keys' parts as bytes, walked. Conditions: as each theorem states.
-/
import Derived.Test.YtelbhegkaihjhaaDoorKyA
import Derived.Test.YtelbhegkaihjhaaDoorKyMath
import Derived.Lib.Replace
namespace Go.Proofs.YtelbhegkaihjhaaDoor
open Go.RowKit
open Vi

theorem or_lt64 {a b : Nat} (ha : a < 18446744073709551616) (hb : b < 18446744073709551616) : a ||| b < 18446744073709551616 := Nat.or_lt_two_pow (n := 64) ha hb
theorem and_lt64 {a : Nat} (b : Nat) (ha : a < 18446744073709551616) : a &&& b < 18446744073709551616 := Nat.lt_of_le_of_lt Nat.and_le_left ha
theorem swap_bits {x d M : Nat} {y e m : Int} (hy : y = (x : Int)) (he : e = (d : Int)) (hm : m = (M : Int)) (hx : x < 18446744073709551616) (hM : M < 18446744073709551616) :
    bits .or .u64 (bits .and .u64 (y / e) m) (IntKind.u64.wrap (bits .and .u64 y m * e)) = (((x / d &&& M) ||| ((x &&& M) * d % 18446744073709551616) : Nat) : Int) := by
  subst hy he hm
  have hxd : x / d < 18446744073709551616 := Nat.lt_of_le_of_lt (Nat.div_le_self x d) hx
  have e1 : (x : Int) / (d : Int) = ((x / d : Nat) : Int) := rfl
  rw [e1, u64_and_nat _ _ hxd hM, u64_and_nat _ _ hx hM]
  have e2 : IntKind.u64.wrap (((x &&& M : Nat) : Int) * (d : Int)) = (((x &&& M) * d % 18446744073709551616 : Nat) : Int) := by
    rw [IntKind.wrap_u64, ← Int.natCast_mul]; rfl
  rw [e2, u64_or_nat _ _ (and_lt64 _ hxd) (by omega)]
theorem last_bits {x : Nat} {y : Int} (hy : y = (x : Int)) (hx : x < 18446744073709551616) :
    bits .or .u64 (y / 4294967296) (IntKind.u64.wrap (y * 4294967296)) = (((x / 4294967296) ||| (x * 4294967296 % 18446744073709551616) : Nat) : Int) := by
  subst hy
  have e1 : (x : Int) / 4294967296 = ((x / 4294967296 : Nat) : Int) := rfl
  have e2 : IntKind.u64.wrap ((x : Int) * 4294967296) = ((x * 4294967296 % 18446744073709551616 : Nat) : Int) := by rw [IntKind.wrap_u64]; rfl
  rw [e1, e2, u64_or_nat _ _ (by omega) (by omega)]
theorem reverse_any (n : Nat) (hn : n < 18446744073709551616) (w : World) :
    Calls Tryd.prog 47 #[.int .u64 n] w fun e w' => e = .returned (.int .u64 (rev8 n)) ∧ w = w' := by
  go_enter Tryd.func47, Tryd.ntmps47
  go_wp2
  go_ret
  refine ⟨ret_int ?_, rfl⟩
  have h1 : ∀ z : Nat, (z &&& 71777214294589695) * 256 % 18446744073709551616 < 18446744073709551616 := fun z => Nat.mod_lt _ (by decide)
  have h2 : ∀ z : Nat, (z &&& 281470681808895) * 65536 % 18446744073709551616 < 18446744073709551616 := fun z => Nat.mod_lt _ (by decide)
  have s1 := swap_bits (x := n) (d := 256) (M := 71777214294589695) rfl rfl rfl hn (by decide)
  have b1 : (n / 256 &&& 71777214294589695) ||| ((n &&& 71777214294589695) * 256 % 18446744073709551616) < 18446744073709551616 := or_lt64 (and_lt64 _ (by omega)) (h1 n)
  have s2 := swap_bits (x := (n / 256 &&& 71777214294589695) ||| ((n &&& 71777214294589695) * 256 % 18446744073709551616)) (d := 65536) (M := 281470681808895) s1 rfl rfl b1 (by decide)
  have b2 := or_lt64 (and_lt64 281470681808895 (Nat.lt_of_le_of_lt (Nat.div_le_self _ 65536) b1)) (h2 ((n / 256 &&& 71777214294589695) ||| ((n &&& 71777214294589695) * 256 % 18446744073709551616)))
  have s3 := last_bits s2 b2
  exact s3.trans (congrArg _ (revText_eq hn))

/-! parts -/
def lift (n : Int) : Nat := (n + 9223372036854775808).toNat
def big8 (n : Nat) : List UInt8 := (little 8 n).reverse
theorem big8_len (n : Nat) : (big8 n).length = 8 := by unfold big8; rw [List.length_reverse, little_len]
theorem highFirst_any (n : Nat) (hn : n < 18446744073709551616) (w : World) :
    Calls Tryd.prog 52 #[.int .u64 n] w fun e w' => e = .returned (.string (bs (big8 n))) ∧ Below w.heap.size w w' := by
  have hw : ∀ W : World, Calls Tryd.prog 59 #[.int .u64 (rev8 n)] W fun e w' => e = .returned (.string (bs (big8 n))) ∧ Below W.heap.size W w' := fun W => by
    have := wide_any (rev8 n) (rev8_lt n) W
    rw [little_rev8] at this
    exact this
  have HW := Lib.hid hw
  clear hw
  go_enter Tryd.func52, Tryd.ntmps52
  go_wp2_with (first
    | (go_at_call 47; refine (reverse_any n hn _).mono ?_; rintro e w' ⟨rfl, rfl⟩)
    | (go_at_call 59; refine (HW.out _).mono ?_; rintro e w' ⟨rfl, hb⟩))
  go_ret
  exact ⟨rfl, hb⟩
theorem highFirst_at {x : Int} {n : Nat} (hx : x = n) (hn : n < 18446744073709551616) (w : World) :
    Calls Tryd.prog 52 #[.int .u64 x] w fun e w' => e = .returned (.string (bs (big8 n))) ∧ Below w.heap.size w w' := by
  subst hx; exact highFirst_any n hn w

structure KPart where
  sort : Nat
  n : Int
  u : Nat
  s : ByteArray
def KPart.ok (p : KPart) : Prop := p.sort < 256 ∧ -9223372036854775808 ≤ p.n ∧ p.n ≤ 9223372036854775807 ∧ p.u < 18446744073709551616
def KPart.cells (p : KPart) : List Value := [.int .u8 p.sort, .int .i64 p.n, .int .u64 p.u, .string p.s]
def KPart.val (p : KPart) : Value := .agg #[.int .u8 p.sort, .int .i64 p.n, .int .u64 p.u, .string p.s]
def esc : List UInt8 → List UInt8
  | [] => []
  | c :: l => if c = 0 then 0 :: 255 :: esc l else c :: esc l
def pbytes (p : KPart) : List UInt8 × Int :=
  if p.sort = 105 then (105 :: big8 (lift p.n), 0) else if p.sort = 100 then (100 :: big8 (18446744073709551615 - lift p.n), 0)
  else if p.sort = 117 then (117 :: big8 p.u, 0) else if p.sort = 116 then (if 200 < p.s.size then ([], 5) else (116 :: (esc p.s.data.toList ++ [0, 0]), 0)) else ([], 11)
theorem lift_lt {n : Int} (h1 : -9223372036854775808 ≤ n) (h2 : n ≤ 9223372036854775807) : lift n < 18446744073709551616 := by unfold lift; omega
theorem cons_bs (c : UInt8) (l : List UInt8) : bs [c] ++ bs l = bs (c :: l) := bs_append [c] l
theorem xor_ones {a : Nat} (h : a < 18446744073709551616) : a ^^^ 18446744073709551615 = 18446744073709551615 - a := by
  have h1 : (BitVec.ofNat 64 a ^^^ BitVec.allOnes 64).toNat = 18446744073709551615 - a := by
    rw [BitVec.xor_allOnes, BitVec.toNat_not, BitVec.toNat_ofNat, Nat.mod_eq_of_lt h]
  rw [BitVec.toNat_xor, BitVec.toNat_ofNat, Nat.mod_eq_of_lt h] at h1
  exact h1
theorem turn_bits {n : Int} (h1 : -9223372036854775808 ≤ n) (h2 : n ≤ 9223372036854775807) : bits .xor .u64 (if IntKind.u64.signed = true then -1 else IntKind.u64.max) (IntKind.u64.wrap (IntKind.u64.wrap n + 9223372036854775808)) = ((18446744073709551615 - lift n : Nat) : Int) := by
  have hx : IntKind.u64.wrap (IntKind.u64.wrap n + 9223372036854775808) = ((lift n : Nat) : Int) := by unfold lift; simp only [IntKind.wrap_u64]; omega
  have e : (if IntKind.u64.signed = true then -1 else IntKind.u64.max) = ((18446744073709551615 : Nat) : Int) := by decide
  rw [hx, e, u64_xor_nat _ _ (by decide) (lift_lt h1 h2), Nat.xor_comm, xor_ones (lift_lt h1 h2)]
theorem bytes_i {w : World} (n : Int) (u : Nat) (s : ByteArray) (h1 : -9223372036854775808 ≤ n) (h2 : n ≤ 9223372036854775807) (_hu : u < 18446744073709551616) :
    Calls Tryd.prog 43 #[.agg #[.int .u8 105, .int .i64 n, .int .u64 u, .string s]] w fun e w' => e = .returned (.tuple #[.string (bs (105 :: big8 (lift n))), .int .i64 0]) ∧ Below w.heap.size w w' := by
  have hl := big8_len (lift n)
  have hbz := bs_size
  have hcb : ByteArray.mk #[105] ++ bs (big8 (lift n)) = bs (105 :: big8 (lift n)) := cons_bs 105 _
  have hx : IntKind.u64.wrap (IntKind.u64.wrap n + 9223372036854775808) = ((lift n : Nat) : Int) := by unfold lift; simp only [IntKind.wrap_u64]; omega
  have HX := Lib.hid hx
  clear hx
  go_enter Tryd.func43, Tryd.ntmps43
  go_wp2_with (go_at_call 52; refine (highFirst_at HX.out (lift_lt h1 h2) _).mono ?_; rintro e w1 ⟨rfl, hb⟩)
  go_ret2
  exact ⟨rfl, ((Below.refl _ _).alloc (Nat.le_refl _) _).trans (hb.mono (by simp))⟩
theorem bytes_d {w : World} (n : Int) (u : Nat) (s : ByteArray) (h1 : -9223372036854775808 ≤ n) (h2 : n ≤ 9223372036854775807) (_hu : u < 18446744073709551616) :
    Calls Tryd.prog 43 #[.agg #[.int .u8 100, .int .i64 n, .int .u64 u, .string s]] w fun e w' => e = .returned (.tuple #[.string (bs (100 :: big8 (18446744073709551615 - lift n))), .int .i64 0]) ∧ Below w.heap.size w w' := by
  have hl := big8_len (18446744073709551615 - lift n)
  have hbz := bs_size
  have hcb : ByteArray.mk #[100] ++ bs (big8 (18446744073709551615 - lift n)) = bs (100 :: big8 (18446744073709551615 - lift n)) := cons_bs 100 _
  have HX := Lib.hid (lift_lt h1 h2)
  go_enter Tryd.func43, Tryd.ntmps43
  go_wp2_with (go_at_call 52; refine (highFirst_at (turn_bits h1 h2) (by omega) _).mono ?_; rintro e w1 ⟨rfl, hb⟩)
  go_ret2
  exact ⟨rfl, ((Below.refl _ _).alloc (Nat.le_refl _) _).trans (hb.mono (by simp))⟩
theorem bytes_u {w : World} (n : Int) (u : Nat) (s : ByteArray) (_h1 : -9223372036854775808 ≤ n) (_h2 : n ≤ 9223372036854775807) (hu : u < 18446744073709551616) :
    Calls Tryd.prog 43 #[.agg #[.int .u8 117, .int .i64 n, .int .u64 u, .string s]] w fun e w' => e = .returned (.tuple #[.string (bs (117 :: big8 (u))), .int .i64 0]) ∧ Below w.heap.size w w' := by
  have hl := big8_len (u)
  have hbz := bs_size
  have hcb : ByteArray.mk #[117] ++ bs (big8 (u)) = bs (117 :: big8 (u)) := cons_bs 117 _
  go_enter Tryd.func43, Tryd.ntmps43
  go_wp2_with (go_at_call 52; refine (highFirst_at rfl (hu) _).mono ?_; rintro e w1 ⟨rfl, hb⟩)
  go_ret2
  exact ⟨rfl, ((Below.refl _ _).alloc (Nat.le_refl _) _).trans (hb.mono (by simp))⟩
theorem bytes_none {w : World} (k : Nat) (n : Int) (u : Nat) (s : ByteArray) (k1 : ((k : Int) == 105) = false) (k2 : ((k : Int) == 100) = false) (k3 : ((k : Int) == 117) = false) (k4 : ((k : Int) == 116) = false) :
    Calls Tryd.prog 43 #[.agg #[.int .u8 k, .int .i64 n, .int .u64 u, .string s]] w fun e w' => e = .returned (.tuple #[.string (bs []), .int .i64 11]) ∧ Below w.heap.size w w' := by
  go_enter Tryd.func43, Tryd.ntmps43
  go_wp2
  go_ret2
  exact ⟨rfl, (Below.refl _ _).alloc (Nat.le_refl _) _⟩
theorem bytes_long {w : World} (n : Int) (u : Nat) (s : ByteArray) (hs : 200 < s.size) (hm : s.size ≤ 9223372036854775807) :
    Calls Tryd.prog 43 #[.agg #[.int .u8 116, .int .i64 n, .int .u64 u, .string s]] w fun e w' => e = .returned (.tuple #[.string (bs []), .int .i64 5]) ∧ Below w.heap.size w w' := by
  go_enter Tryd.func43, Tryd.ntmps43
  go_wp2
  go_ret2
  exact ⟨rfl, (Below.refl _ _).alloc (Nat.le_refl _) _⟩

/-! a text's bytes 0 -/
section
open Lib
theorem idx_nil : index [] [0] = -1 := rfl
theorem idx_zero (l : List UInt8) : index (0 :: l) [0] = 0 := by simp [index, List.isPrefixOf]
theorem idx_other {b : UInt8} (h : ¬ b = 0) (l : List UInt8) : index (b :: l) [0] = if index l [0] == -1 then -1 else index l [0] + 1 := by
  have : ([0] : List UInt8).isPrefixOf (b :: l) = false := by simp [List.isPrefixOf]; exact fun e => h e.symm
  rw [index, this]; simp
theorem repl_other {b : UInt8} (h : ¬ b = 0) (l : List UInt8) : ∀ k, replaceK [0] [0, 255] k (b :: l) = b :: replaceK [0] [0, 255] k l
  | 0 => rfl
  | k + 1 => by
    rw [replaceK, replaceK, idx_other h]
    by_cases hi : (index l [0] == -1) = true
    · simp [hi]
    · have h0 := index_ge l [0]
      have h1 : ¬ index l [0] = -1 := by simpa using hi
      rw [if_neg hi, if_neg hi, if_neg (by simp; omega)]
      have e : (index l [0] + 1).toNat = (index l [0]).toNat + 1 := by omega
      rw [e]; simp
theorem repl_zero (l : List UInt8) (k : Nat) : replaceK [0] [0, 255] (k + 1) (0 :: l) = 0 :: 255 :: replaceK [0] [0, 255] k l := by
  rw [replaceK, idx_zero, if_neg (by decide)]; simp
def zeros : List UInt8 → Nat
  | [] => 0
  | c :: l => (if c = 0 then 1 else 0) + zeros l
theorem repl_esc : ∀ (l : List UInt8) (k : Nat), zeros l ≤ k → replaceK [0] [0, 255] k l = esc l
  | [], k, _ => by cases k <;> simp [replaceK, esc, index]
  | c :: l, k, h => by
    by_cases hc : c = 0
    · subst hc
      simp only [zeros, if_pos] at h
      obtain ⟨j, rfl⟩ : ∃ j, k = j + 1 := ⟨k - 1, by omega⟩
      rw [repl_zero, repl_esc l j (by omega)]; simp [esc]
    · simp only [zeros, if_neg hc] at h
      rw [repl_other hc, repl_esc l k (by omega)]; simp [esc, hc]
theorem count_other {b : UInt8} (h : ¬ b = 0) (l : List UInt8) (f : Nat) : countFrom [0] (f + 1) (b :: l) = countFrom [0] (f + 1) l := by
  rw [countFrom, countFrom, idx_other h]
  by_cases hi : (index l [0] == -1) = true
  · simp [hi]
  · have h0 := index_ge l [0]
    have h1 : ¬ index l [0] = -1 := by simpa using hi
    rw [if_neg hi, if_neg hi, if_neg (by simp; omega)]
    have e : (index l [0] + 1).toNat = (index l [0]).toNat + 1 := by omega
    rw [e]; simp
theorem zeros_count : ∀ (l : List UInt8) (f : Nat), l.length < f → zeros l ≤ countFrom [0] f l
  | [], f, _ => by simp [zeros]
  | c :: l, f, h => by
    obtain ⟨j, rfl⟩ : ∃ j, f = j + 1 := ⟨f - 1, by simp at h; omega⟩
    by_cases hc : c = 0
    · subst hc
      have := zeros_count l j (by simp at h; omega)
      rw [countFrom, idx_zero, if_neg (by decide)]
      simp [zeros]; omega
    · have := zeros_count l (j + 1) (by simp at h; omega)
      rw [count_other hc]; simp [zeros, hc]; omega
theorem count_le (sub : List UInt8) : ∀ (f : Nat) (l : List UInt8), countFrom sub f l ≤ f
  | 0, _ => by simp [countFrom]
  | f + 1, l => by
    rw [countFrom]; split
    · omega
    · have := count_le sub f (l.drop ((index l sub).toNat + sub.length)); omega
theorem replaceAll_esc (l : List UInt8) : replaceAll l [0] [0, 255] = esc l := by
  unfold replaceAll replace
  rw [if_neg (by decide)]
  have : replaceNum l [0] (-1) = count l [0] := by unfold replaceNum; rw [if_pos (by omega)]
  rw [this]
  exact repl_esc l _ (zeros_count l _ (by omega))
end
theorem esc_len : ∀ l : List UInt8, (esc l).length ≤ 2 * l.length
  | [] => by simp [esc]
  | c :: l => by
    have := esc_len l
    by_cases hc : c = 0 <;> simp [esc, hc] <;> omega
theorem cell_alloc0 {w : World} {v : Value} (h : w.cell? ⟨0, 0, none⟩ = some v) (o : Obj) : (w.alloc o).cell? ⟨0, 0, none⟩ = some v := by
  rw [World.cell?_alloc_lt w o _ (by
    rcases Nat.lt_or_ge 0 w.heap.size with h' | h'
    · exact h'
    · unfold World.cell? at h
      rw [Array.getElem?_eq_none h'] at h
      simp at h)]
  exact h
theorem bytes_t {w : World} (n : Int) (u : Nat) (s : ByteArray) (hs : s.size ≤ 200) (m : Int) (hm : w.cell? ⟨0, 0, none⟩ = some (.int .i64 m)) :
    Calls Tryd.prog 43 #[.agg #[.int .u8 116, .int .i64 n, .int .u64 u, .string s]] w fun e w' => e = .returned (.tuple #[.string (bs (116 :: (esc s.data.toList ++ [0, 0]))), .int .i64 0]) ∧ Below w.heap.size w w' := by
  have hc : ∀ o : Obj, Calls Tryd.prog 53 #[.string s, .string ⟨#[0]⟩, .string ⟨#[0, 255]⟩] (w.alloc o) fun e w' => e = .returned (.string (bs (esc s.data.toList))) ∧ Below (w.alloc o).heap.size (w.alloc o) w' := fun o => by
    have h1 : Lib.countB s ⟨#[0]⟩ ≤ s.size + 1 := count_le _ _ _
    have := Tryd.strings_ReplaceAll s ⟨#[0]⟩ ⟨#[0, 255]⟩ m (w.alloc o) (by omega) (cell_alloc0 hm o) (by decide) (by
      have h2 : (ByteArray.mk #[0, 255]).size = 2 := rfl
      rw [h2]; omega)
    rw [replaceAll_esc] at this
    exact this
  have HC := Lib.hid hc
  have hbz := bs_size
  have hel := esc_len s.data.toList
  rw [size_len] at hel
  have hcb : ByteArray.mk #[116] ++ bs (esc s.data.toList) = bs (116 :: esc s.data.toList) := cons_bs 116 _
  have hc2 : ∀ l : List UInt8, bs l ++ ByteArray.mk #[0] = bs (l ++ [0]) := fun l => bs_append l [0]
  clear hc hm
  go_enter Tryd.func43, Tryd.ntmps43
  go_wp2_with (go_at_call 53; refine (HC.out _).mono ?_; rintro e w1 ⟨rfl, hb⟩)
  go_ret2
  exact ⟨by simp, ((Below.refl _ _).alloc (Nat.le_refl _) _).trans (hb.mono (by simp))⟩
end Go.Proofs.YtelbhegkaihjhaaDoor
