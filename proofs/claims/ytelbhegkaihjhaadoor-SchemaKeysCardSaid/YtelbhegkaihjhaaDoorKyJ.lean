/-
  The Go text that reads the first part of a key, walked. Conditions: as each theorem states.
-/
import Derived.Test.YtelbhegkaihjhaaDoorKyI
namespace Go.Proofs.YtelbhegkaihjhaaDoor
open Go.RowKit
open Vi

/-- the number of eight bytes, the highest first -/
def be8 (l : List UInt8) : Nat := rev8 (big (l.take 8))
theorem be8_lt (l : List UInt8) : be8 l < 18446744073709551616 := rev8_lt _
/-- the part that bytes begin with, and what is behind it -/
def pfirst : List UInt8 → Option (KPart × List UInt8)
  | [] => none
  | c :: l => if c = 116 then (unesc l).map (fun x => (kText (bs x.1), x.2)) else if l.length < 8 then none
    else if c = 105 then some (kUp ((be8 l : Int) - 9223372036854775808), l.drop 8) else if c = 100 then some (kDown (9223372036854775807 - (be8 l : Int)), l.drop 8)
    else if c = 117 then some (kCount (be8 l), l.drop 8) else none
theorem pfirst_t (l : List UInt8) : pfirst (116 :: l) = (unesc l).map (fun x => (kText (bs x.1), x.2)) := by rw [pfirst, if_pos rfl]
theorem pfirst_short {c : UInt8} {l : List UInt8} (h : ¬ c = 116) (hl : l.length < 8) : pfirst (c :: l) = none := by rw [pfirst, if_neg h, if_pos hl]
theorem pfirst_i {l : List UInt8} (hl : ¬ l.length < 8) : pfirst (105 :: l) = some (kUp ((be8 l : Int) - 9223372036854775808), l.drop 8) := by rw [pfirst, if_neg (by decide), if_neg hl, if_pos rfl]
theorem pfirst_d {l : List UInt8} (hl : ¬ l.length < 8) : pfirst (100 :: l) = some (kDown (9223372036854775807 - (be8 l : Int)), l.drop 8) := by rw [pfirst, if_neg (by decide), if_neg hl, if_neg (by decide), if_pos rfl]
theorem pfirst_u {l : List UInt8} (hl : ¬ l.length < 8) : pfirst (117 :: l) = some (kCount (be8 l), l.drop 8) := by rw [pfirst, if_neg (by decide), if_neg hl, if_neg (by decide), if_neg (by decide), if_pos rfl]
theorem pfirst_n {c : UInt8} {l : List UInt8} (h1 : ¬ c = 116) (h2 : ¬ c = 105) (h3 : ¬ c = 100) (h4 : ¬ c = 117) : pfirst (c :: l) = none := by
  rw [pfirst, if_neg h1, if_neg h2, if_neg h3, if_neg h4]; split <;> rfl
theorem row_grown {w wr : World} {row : Option Nat} {g : Nat} {o : Obj} (h : w.heap[g]? = some o) (hg : w.grownBy wr row) (hne : some g ≠ row) : wr.heap[g]? = some o := by
  rw [hg.block g (Array.getElem?_eq_some_iff.1 h).1 hne]; exact h
theorem bytes_of_first (S : ByteArray) (h : 0 < S.size) : S.data.toList = S[0] :: S.data.toList.drop 1 := by
  have := drop_at S 0 h
  rwa [List.drop_zero] at this
theorem ext_from (S : ByteArray) (k : Nat) : S.extract k S.size = bs (S.data.toList.drop k) := by
  rw [Lib.extract_eq, List.take_of_length_le (by rw [List.length_drop]; exact Nat.le_refl _)]; rfl
theorem first_below {w w1 w2 : World} {o : Obj} (b1 : Below (w.alloc o).heap.size (w.alloc o) w1) (g2 : w1.grownBy w2 (some (w.heap.size + 1))) : Below w.heap.size w w2 := by
  have h0 := (Below.refl w.heap.size w).alloc (Nat.le_refl _) o
  have h1 := h0.trans (b1.mono h0.size)
  refine h1.trans ⟨g2.os, g2.tape, g2.output, g2.size, fun k hk => g2.block k (Nat.lt_of_lt_of_le hk h1.size) ?_⟩
  intro e; cases e; omega
theorem wrap_up {N : Nat} (h : N < 18446744073709551616) : wrap64 (IntKind.u64.wrap ((N : Int) - 9223372036854775808)) = (N : Int) - 9223372036854775808 := by
  rw [IntKind.wrap_u64]; unfold wrap64; omega
theorem wrap_down {N : Nat} (h : N < 18446744073709551616) : wrap64 (IntKind.u64.wrap (bits .xor .u64 IntKind.u64.max (N : Int) - 9223372036854775808)) = 9223372036854775807 - (N : Int) := by
  have e : IntKind.u64.max = ((18446744073709551615 : Nat) : Int) := by decide
  rw [e, u64_xor_nat _ _ (by decide) h, Nat.xor_comm, xor_ones h, IntKind.wrap_u64]; unfold wrap64; omega
set_option maxRecDepth 100000 in
set_option maxHeartbeats 2000000 in
theorem first_short {w : World} (S : ByteArray) (hS : 0 < S.size) (hS2 : S.size ≤ 1000) (hl : S.size < 9) (k1 : ((S[0].toNat : Int) == 116) = false) (hp : Hid (pfirst S.data.toList = none)) :
    Calls Tryd.prog 37 #[.string S] w fun e w' => e = .returned (fval (pfirst S.data.toList)) ∧ Below w.heap.size w w' := by
  have x1 := ext_from S 1
  have hlz : (S.data.toList.drop 1).length = S.size - 1 := by rw [List.length_drop, size_len]
  generalize S.data.toList.drop 1 = z at x1 hlz
  have hd : dTake z 0 0 8 = ([], 0, 3) := dTake_short (.inr (by omega))
  have hbd := bs_toList
  have hbn : big [] = 0 := big_nil
  go_enter Tryd.func37, Tryd.ntmps37
  go_wp2_with (first
    | (go_at_call 46; refine (over_any _ _).mono ?_; rintro e w1 ⟨rfl, r1, b1⟩; simp only [World.alloc, Array.size_push] at r1; have R1 := Lib.hid r1; have row1 := Lib.hid ((b1.block w.heap.size (by simp)).trans (heap_alloc_new w (.cells #[.int .u8 0, .int .i64 0, .int .u64 0, .string ⟨#[]⟩] 49))); clear r1)
    | (go_at_call 48; refine (rwide_any R1.out (by rw [bs_size]; omega) (by omega)).mono ?_; rintro e w2 ⟨rfl, r2, g2⟩; simp only [hbd, hd] at r2; have R2 := Lib.hid r2; have row2 := Lib.hid (row_grown row1.out g2 (by simp)); have c0 := cell_in row2.out 0 _ rfl; have c1 := cell_in row2.out 1 _ rfl; have c2 := cell_in row2.out 2 _ rfl; have c3 := cell_in row2.out 3 _ rfl; have f0 := free_in row2.out 0; have f1 := free_in row2.out 1; have f2 := free_in row2.out 2; have f3 := free_in row2.out 3; have B2 := Lib.hid (first_below b1 g2); clear r2)
    | (go_at_call 47; refine (reverse_any _ (by simp) _).mono ?_; rintro e w' ⟨rfl, rfl⟩)
    | (go_at_call 49; refine (err_any R2.out).mono ?_; rintro e w' ⟨rfl, rfl⟩)
    | (go_at_call 50; refine (at_any R2.out).mono ?_; rintro e w' ⟨rfl, rfl⟩))
  exact ret_part rfl rfl rfl rfl rfl (row_sets row2.out rfl _ _ _ _) ⟨by rw [hp.out]; rfl, below_sets B2.out⟩
set_option maxRecDepth 100000 in
set_option maxHeartbeats 2000000 in
theorem first_none {w : World} (S : ByteArray) (hS : 0 < S.size) (hS2 : S.size ≤ 1000) (hl : 9 ≤ S.size) (k1 : ((S[0].toNat : Int) == 116) = false) (k2 : ((S[0].toNat : Int) == 105) = false) (k3 : ((S[0].toNat : Int) == 100) = false) (k4 : ((S[0].toNat : Int) == 117) = false) (hp : Hid (pfirst S.data.toList = none)) :
    Calls Tryd.prog 37 #[.string S] w fun e w' => e = .returned (fval (pfirst S.data.toList)) ∧ Below w.heap.size w w' := by
  have x1 := ext_from S 1
  have hlz : (S.data.toList.drop 1).length = S.size - 1 := by rw [List.length_drop, size_len]
  have y9 := ext_from S 9
  have hd9 : S.data.toList.drop 9 = (S.data.toList.drop 1).drop 8 := by rw [List.drop_drop]
  rw [hd9] at y9
  have hr : rev8 (big ((S.data.toList.drop 1).take 8)) = be8 (S.data.toList.drop 1) := rfl
  have hbe := be8_lt (S.data.toList.drop 1)
  have hbl : big ((S.data.toList.drop 1).take 8) < 18446744073709551616 := by
    have h := big_lt ((S.data.toList.drop 1).take 8)
    rw [List.length_take, Nat.min_eq_left (by omega)] at h
    exact h
  generalize S.data.toList.drop 1 = z at x1 hlz hr hbe hbl hp y9
  clear hd9
  have hd : dTake z 0 0 8 = (z.take 8, 8, 0) := by rw [dTake_ok (by omega) (by omega), List.drop_zero]; rfl
  generalize be8 z = N at hr hbe hp
  generalize z.drop 8 = y at y9 hp
  generalize z.take 8 = t at hd hr hbl
  have hbd := bs_toList
  go_enter Tryd.func37, Tryd.ntmps37
  go_wp2_with (first
    | (go_at_call 46; refine (over_any _ _).mono ?_; rintro e w1 ⟨rfl, r1, b1⟩; simp only [World.alloc, Array.size_push] at r1; have R1 := Lib.hid r1; have row1 := Lib.hid ((b1.block w.heap.size (by simp)).trans (heap_alloc_new w (.cells #[.int .u8 0, .int .i64 0, .int .u64 0, .string ⟨#[]⟩] 49))); clear r1)
    | (go_at_call 48; refine (rwide_any R1.out (by rw [bs_size]; omega) (by omega)).mono ?_; rintro e w2 ⟨rfl, r2, g2⟩; simp only [hbd, hd] at r2; have R2 := Lib.hid r2; have row2 := Lib.hid (row_grown row1.out g2 (by simp)); have c0 := cell_in row2.out 0 _ rfl; have c1 := cell_in row2.out 1 _ rfl; have c2 := cell_in row2.out 2 _ rfl; have c3 := cell_in row2.out 3 _ rfl; have f0 := free_in row2.out 0; have f1 := free_in row2.out 1; have f2 := free_in row2.out 2; have f3 := free_in row2.out 3; have B2 := Lib.hid (first_below b1 g2); clear r2)
    | (go_at_call 47; refine (reverse_any _ (by simpa [hbd, hd] using hbl) _).mono ?_; rintro e w' ⟨rfl, rfl⟩)
    | (go_at_call 49; refine (err_any R2.out).mono ?_; rintro e w' ⟨rfl, rfl⟩)
    | (go_at_call 50; refine (at_any R2.out).mono ?_; rintro e w' ⟨rfl, rfl⟩))
  exact ret_part rfl rfl rfl rfl rfl (row_sets row2.out rfl _ _ _ _) ⟨by rw [hp.out]; rfl, below_sets B2.out⟩
set_option maxRecDepth 100000 in
set_option maxHeartbeats 2000000 in
theorem first_count {w : World} (S : ByteArray) (hS : 0 < S.size) (hS2 : S.size ≤ 1000) (hl : 9 ≤ S.size) (k1 : (S[0].toNat : Int) = 117) (hp : Hid (pfirst S.data.toList = some (kCount (be8 (S.data.toList.drop 1)), (S.data.toList.drop 1).drop 8))) :
    Calls Tryd.prog 37 #[.string S] w fun e w' => e = .returned (fval (pfirst S.data.toList)) ∧ Below w.heap.size w w' := by
  have x1 := ext_from S 1
  have hlz : (S.data.toList.drop 1).length = S.size - 1 := by rw [List.length_drop, size_len]
  have y9 := ext_from S 9
  have hd9 : S.data.toList.drop 9 = (S.data.toList.drop 1).drop 8 := by rw [List.drop_drop]
  rw [hd9] at y9
  have hr : rev8 (big ((S.data.toList.drop 1).take 8)) = be8 (S.data.toList.drop 1) := rfl
  have hbe := be8_lt (S.data.toList.drop 1)
  have hbl : big ((S.data.toList.drop 1).take 8) < 18446744073709551616 := by
    have h := big_lt ((S.data.toList.drop 1).take 8)
    rw [List.length_take, Nat.min_eq_left (by omega)] at h
    exact h
  generalize S.data.toList.drop 1 = z at x1 hlz hr hbe hbl hp y9
  clear hd9
  have hd : dTake z 0 0 8 = (z.take 8, 8, 0) := by rw [dTake_ok (by omega) (by omega), List.drop_zero]; rfl
  generalize be8 z = N at hr hbe hp
  generalize z.drop 8 = y at y9 hp
  generalize z.take 8 = t at hd hr hbl
  have hbd := bs_toList
  go_enter Tryd.func37, Tryd.ntmps37
  go_wp2_with (first
    | (go_at_call 46; refine (over_any _ _).mono ?_; rintro e w1 ⟨rfl, r1, b1⟩; simp only [World.alloc, Array.size_push] at r1; have R1 := Lib.hid r1; have row1 := Lib.hid ((b1.block w.heap.size (by simp)).trans (heap_alloc_new w (.cells #[.int .u8 0, .int .i64 0, .int .u64 0, .string ⟨#[]⟩] 49))); clear r1)
    | (go_at_call 48; refine (rwide_any R1.out (by rw [bs_size]; omega) (by omega)).mono ?_; rintro e w2 ⟨rfl, r2, g2⟩; simp only [hbd, hd] at r2; have R2 := Lib.hid r2; have row2 := Lib.hid (row_grown row1.out g2 (by simp)); have B2 := Lib.hid (first_below b1 g2); clear r2)
    | (go_at_call 47; refine (reverse_any _ (by simpa [hbd, hd] using hbl) _).mono ?_; rintro e w' ⟨rfl, rfl⟩)
    | (go_at_call 49; refine (err_any R2.out).mono ?_; rintro e w' ⟨rfl, rfl⟩)
    | (go_at_call 50; refine (at_any R2.out).mono ?_; rintro e w' ⟨rfl, rfl⟩)
    | (go_at_call 38; refine (count_any _ _).mono ?_; rintro e w3 ⟨rfl, b3⟩; have row3 := Lib.hid ((b3.block w.heap.size (Array.getElem?_eq_some_iff.1 row2.out).1).trans row2.out); have c0 := cell_in row3.out 0 _ rfl; have c1 := cell_in row3.out 1 _ rfl; have c2 := cell_in row3.out 2 _ rfl; have c3 := cell_in row3.out 3 _ rfl; have f0 := free_in row3.out 0; have f1 := free_in row3.out 1; have f2 := free_in row3.out 2; have f3 := free_in row3.out 3))
  exact ret_part rfl rfl rfl rfl rfl (row_sets row3.out rfl _ _ _ _) ⟨by rw [hp.out]; rfl, below_sets (B2.out.trans (b3.mono B2.out.size))⟩
set_option maxRecDepth 100000 in
set_option maxHeartbeats 2000000 in
theorem first_up {w : World} (S : ByteArray) (hS : 0 < S.size) (hS2 : S.size ≤ 1000) (hl : 9 ≤ S.size) (k1 : (S[0].toNat : Int) = 105) (hp : Hid (pfirst S.data.toList = some (kUp ((be8 (S.data.toList.drop 1) : Int) - 9223372036854775808), (S.data.toList.drop 1).drop 8))) :
    Calls Tryd.prog 37 #[.string S] w fun e w' => e = .returned (fval (pfirst S.data.toList)) ∧ Below w.heap.size w w' := by
  have x1 := ext_from S 1
  have hlz : (S.data.toList.drop 1).length = S.size - 1 := by rw [List.length_drop, size_len]
  have y9 := ext_from S 9
  have hd9 : S.data.toList.drop 9 = (S.data.toList.drop 1).drop 8 := by rw [List.drop_drop]
  rw [hd9] at y9
  have hr : rev8 (big ((S.data.toList.drop 1).take 8)) = be8 (S.data.toList.drop 1) := rfl
  have hbe := be8_lt (S.data.toList.drop 1)
  have hbl : big ((S.data.toList.drop 1).take 8) < 18446744073709551616 := by
    have h := big_lt ((S.data.toList.drop 1).take 8)
    rw [List.length_take, Nat.min_eq_left (by omega)] at h
    exact h
  generalize S.data.toList.drop 1 = z at x1 hlz hr hbe hbl hp y9
  clear hd9
  have hd : dTake z 0 0 8 = (z.take 8, 8, 0) := by rw [dTake_ok (by omega) (by omega), List.drop_zero]; rfl
  generalize be8 z = N at hr hbe hp
  generalize z.drop 8 = y at y9 hp
  generalize z.take 8 = t at hd hr hbl
  have hbd := bs_toList
  go_enter Tryd.func37, Tryd.ntmps37
  go_wp2_with (first
    | (go_at_call 46; refine (over_any _ _).mono ?_; rintro e w1 ⟨rfl, r1, b1⟩; simp only [World.alloc, Array.size_push] at r1; have R1 := Lib.hid r1; have row1 := Lib.hid ((b1.block w.heap.size (by simp)).trans (heap_alloc_new w (.cells #[.int .u8 0, .int .i64 0, .int .u64 0, .string ⟨#[]⟩] 49))); clear r1)
    | (go_at_call 48; refine (rwide_any R1.out (by rw [bs_size]; omega) (by omega)).mono ?_; rintro e w2 ⟨rfl, r2, g2⟩; simp only [hbd, hd] at r2; have R2 := Lib.hid r2; have row2 := Lib.hid (row_grown row1.out g2 (by simp)); have B2 := Lib.hid (first_below b1 g2); clear r2)
    | (go_at_call 47; refine (reverse_any _ (by simpa [hbd, hd] using hbl) _).mono ?_; rintro e w' ⟨rfl, rfl⟩)
    | (go_at_call 49; refine (err_any R2.out).mono ?_; rintro e w' ⟨rfl, rfl⟩)
    | (go_at_call 50; refine (at_any R2.out).mono ?_; rintro e w' ⟨rfl, rfl⟩)
    | (go_at_call 39; refine (up_any _ _).mono ?_; rintro e w3 ⟨rfl, b3⟩; have row3 := Lib.hid ((b3.block w.heap.size (Array.getElem?_eq_some_iff.1 row2.out).1).trans row2.out); have c0 := cell_in row3.out 0 _ rfl; have c1 := cell_in row3.out 1 _ rfl; have c2 := cell_in row3.out 2 _ rfl; have c3 := cell_in row3.out 3 _ rfl; have f0 := free_in row3.out 0; have f1 := free_in row3.out 1; have f2 := free_in row3.out 2; have f3 := free_in row3.out 3))
  exact ret_part rfl rfl rfl rfl rfl (row_sets row3.out rfl _ _ _ _) ⟨by rw [hp.out, wrap_up hbe]; rfl, below_sets (B2.out.trans (b3.mono B2.out.size))⟩
set_option maxRecDepth 100000 in
set_option maxHeartbeats 2000000 in
theorem first_down {w : World} (S : ByteArray) (hS : 0 < S.size) (hS2 : S.size ≤ 1000) (hl : 9 ≤ S.size) (k1 : (S[0].toNat : Int) = 100) (hp : Hid (pfirst S.data.toList = some (kDown (9223372036854775807 - (be8 (S.data.toList.drop 1) : Int)), (S.data.toList.drop 1).drop 8))) :
    Calls Tryd.prog 37 #[.string S] w fun e w' => e = .returned (fval (pfirst S.data.toList)) ∧ Below w.heap.size w w' := by
  have x1 := ext_from S 1
  have hlz : (S.data.toList.drop 1).length = S.size - 1 := by rw [List.length_drop, size_len]
  have y9 := ext_from S 9
  have hd9 : S.data.toList.drop 9 = (S.data.toList.drop 1).drop 8 := by rw [List.drop_drop]
  rw [hd9] at y9
  have hr : rev8 (big ((S.data.toList.drop 1).take 8)) = be8 (S.data.toList.drop 1) := rfl
  have hbe := be8_lt (S.data.toList.drop 1)
  have hbl : big ((S.data.toList.drop 1).take 8) < 18446744073709551616 := by
    have h := big_lt ((S.data.toList.drop 1).take 8)
    rw [List.length_take, Nat.min_eq_left (by omega)] at h
    exact h
  generalize S.data.toList.drop 1 = z at x1 hlz hr hbe hbl hp y9
  clear hd9
  have hd : dTake z 0 0 8 = (z.take 8, 8, 0) := by rw [dTake_ok (by omega) (by omega), List.drop_zero]; rfl
  generalize be8 z = N at hr hbe hp
  generalize z.drop 8 = y at y9 hp
  generalize z.take 8 = t at hd hr hbl
  have hbd := bs_toList
  go_enter Tryd.func37, Tryd.ntmps37
  go_wp2_with (first
    | (go_at_call 46; refine (over_any _ _).mono ?_; rintro e w1 ⟨rfl, r1, b1⟩; simp only [World.alloc, Array.size_push] at r1; have R1 := Lib.hid r1; have row1 := Lib.hid ((b1.block w.heap.size (by simp)).trans (heap_alloc_new w (.cells #[.int .u8 0, .int .i64 0, .int .u64 0, .string ⟨#[]⟩] 49))); clear r1)
    | (go_at_call 48; refine (rwide_any R1.out (by rw [bs_size]; omega) (by omega)).mono ?_; rintro e w2 ⟨rfl, r2, g2⟩; simp only [hbd, hd] at r2; have R2 := Lib.hid r2; have row2 := Lib.hid (row_grown row1.out g2 (by simp)); have B2 := Lib.hid (first_below b1 g2); clear r2)
    | (go_at_call 47; refine (reverse_any _ (by simpa [hbd, hd] using hbl) _).mono ?_; rintro e w' ⟨rfl, rfl⟩)
    | (go_at_call 49; refine (err_any R2.out).mono ?_; rintro e w' ⟨rfl, rfl⟩)
    | (go_at_call 50; refine (at_any R2.out).mono ?_; rintro e w' ⟨rfl, rfl⟩)
    | (go_at_call 51; refine (down_any _ _).mono ?_; rintro e w3 ⟨rfl, b3⟩; have row3 := Lib.hid ((b3.block w.heap.size (Array.getElem?_eq_some_iff.1 row2.out).1).trans row2.out); have c0 := cell_in row3.out 0 _ rfl; have c1 := cell_in row3.out 1 _ rfl; have c2 := cell_in row3.out 2 _ rfl; have c3 := cell_in row3.out 3 _ rfl; have f0 := free_in row3.out 0; have f1 := free_in row3.out 1; have f2 := free_in row3.out 2; have f3 := free_in row3.out 3))
  exact ret_part rfl rfl rfl rfl rfl (row_sets row3.out rfl _ _ _ _) ⟨by rw [hp.out, wrap_down hbe]; rfl, below_sets (B2.out.trans (b3.mono B2.out.size))⟩
set_option maxRecDepth 100000 in
set_option maxHeartbeats 2000000 in
theorem first_text {w : World} (S : ByteArray) (hS : 0 < S.size) (hS2 : S.size ≤ 1000) (m : Int) (hm : w.cell? ⟨0, 0, none⟩ = some (.int .i64 m)) (k1 : (S[0].toNat : Int) = 116) (hp : Hid (pfirst S.data.toList = (unesc (S.data.toList.drop 1)).map fun x => (kText (bs x.1), x.2))) :
    Calls Tryd.prog 37 #[.string S] w fun e w' => e = .returned (fval (pfirst S.data.toList)) ∧ Below w.heap.size w w' := by
  have HM := Lib.hid (cell_alloc0 hm (.cells #[.int .u8 0, .int .i64 0, .int .u64 0, .string ⟨#[]⟩] 49))
  clear hm
  have x1 := ext_from S 1
  have hlz : (S.data.toList.drop 1).length = S.size - 1 := by rw [List.length_drop, size_len]
  generalize S.data.toList.drop 1 = z at x1 hlz hp
  have HT := Lib.hid (firstText_any z (by omega) m HM.out)
  generalize (unesc z).map (fun x => (kText (bs x.1), x.2)) = o at hp HT
  match o with
  | none =>
    go_enter Tryd.func37, Tryd.ntmps37
    go_wp2_with (go_at_call 45; refine HT.out.mono ?_; rintro e w1 ⟨rfl, b1⟩; simp only [fval]; have row1 := Lib.hid ((b1.block w.heap.size (by simp)).trans (heap_alloc_new w (.cells #[.int .u8 0, .int .i64 0, .int .u64 0, .string ⟨#[]⟩] 49))); have c0 := cell_in row1.out 0 _ rfl; have c1 := cell_in row1.out 1 _ rfl; have c2 := cell_in row1.out 2 _ rfl; have c3 := cell_in row1.out 3 _ rfl; have f0 := free_in row1.out 0; have f1 := free_in row1.out 1; have f2 := free_in row1.out 2; have f3 := free_in row1.out 3)
    exact ret_part rfl rfl rfl rfl rfl (row_sets row1.out rfl _ _ _ _) ⟨by rw [hp.out]; rfl, below_sets (first_below b1 (grown_refl _ _))⟩
  | some ((⟨q1, q2, q3, q4⟩, r)) =>
    go_enter Tryd.func37, Tryd.ntmps37
    go_wp2_with (go_at_call 45; refine HT.out.mono ?_; rintro e w1 ⟨rfl, b1⟩; simp only [fval]; have row1 := Lib.hid ((b1.block w.heap.size (by simp)).trans (heap_alloc_new w (.cells #[.int .u8 0, .int .i64 0, .int .u64 0, .string ⟨#[]⟩] 49))); have c0 := cell_in row1.out 0 _ rfl; have c1 := cell_in row1.out 1 _ rfl; have c2 := cell_in row1.out 2 _ rfl; have c3 := cell_in row1.out 3 _ rfl; have f0 := free_in row1.out 0; have f1 := free_in row1.out 1; have f2 := free_in row1.out 2; have f3 := free_in row1.out 3)
    exact ret_part rfl rfl rfl rfl rfl (row_sets row1.out rfl _ _ _ _) ⟨by rw [hp.out]; rfl, below_sets (first_below b1 (grown_refl _ _))⟩
theorem byte_is {c : UInt8} {n : Nat} (h : c = UInt8.ofNat n) (hn : n < 256) : (c.toNat : Int) = n := by
  subst h; rw [UInt8.toNat_ofNat', Nat.mod_eq_of_lt hn]
theorem byte_not {c d : UInt8} (h : ¬ c = d) : ((c.toNat : Int) == (d.toNat : Int)) = false := by
  rw [beq_eq_false_iff_ne]; intro e; exact h (UInt8.toNat_inj.1 (Int.ofNat_inj.1 e))
/-- first, at every key of at most 1000 bytes that isn't empty -/
theorem first_any {w : World} (S : ByteArray) (hS : 0 < S.size) (hS2 : S.size ≤ 1000) (m : Int) (hm : w.cell? ⟨0, 0, none⟩ = some (.int .i64 m)) :
    Calls Tryd.prog 37 #[.string S] w fun e w' => e = .returned (fval (pfirst S.data.toList)) ∧ Below w.heap.size w w' := by
  have hb := bytes_of_first S hS
  have hlz : (S.data.toList.drop 1).length = S.size - 1 := by rw [List.length_drop, size_len]
  by_cases h1 : S[0] = 116
  · refine first_text S hS hS2 m hm (byte_is h1 (by decide)) ?_
    show _ = _
    rw [hb, h1, pfirst_t]; rfl
  by_cases hl : S.size < 9
  · refine first_short S hS hS2 hl (byte_not h1) ?_
    show _ = _
    rw [hb, pfirst_short h1 (by omega)]
  by_cases h2 : S[0] = 105
  · refine first_up S hS hS2 (by omega) (byte_is h2 (by decide)) ?_
    show _ = _
    rw [hb, h2, pfirst_i (by omega)]; rfl
  by_cases h3 : S[0] = 100
  · refine first_down S hS hS2 (by omega) (byte_is h3 (by decide)) ?_
    show _ = _
    rw [hb, h3, pfirst_d (by omega)]; rfl
  by_cases h4 : S[0] = 117
  · refine first_count S hS hS2 (by omega) (byte_is h4 (by decide)) ?_
    show _ = _
    rw [hb, h4, pfirst_u (by omega)]; rfl
  refine first_none S hS hS2 (by omega) (byte_not h1) (byte_not h2) (byte_not h3) (byte_not h4) ?_
  show _ = _
  rw [hb, pfirst_n h1 h2 h3 h4]
end Go.Proofs.YtelbhegkaihjhaaDoor
