/-
  Keys of numbers and of texts stand in their order: mathematics; and the walks of the calls that make them. Conditions: as each theorem states.
-/
import Derived.Test.YtelbhegkaihjhaaDoorKyOrd
namespace Go.Proofs.YtelbhegkaihjhaaDoor
open Go.RowKit
open Vi

theorem big_rev_cons (x : UInt8) (l : List UInt8) : big (x :: l).reverse = big l.reverse + 256 ^ l.length * x.toNat := by
  rw [List.reverse_cons, big_snoc, List.length_reverse]
theorem big_rev_lt (l : List UInt8) : big l.reverse < 256 ^ l.length := by
  have := big_lt l.reverse; rwa [List.length_reverse] at this
theorem bl_big : ∀ (a b : List UInt8), a.length = b.length → Op.bytesLess a b = decide (big a.reverse < big b.reverse)
  | [], [], _ => by rw [bl_nil]; simp
  | x :: a, y :: b, h => by
    have hl : a.length = b.length := by simpa using h
    have h1 := big_rev_lt a
    have h2 := big_rev_lt b
    rw [big_rev_cons, big_rev_cons, hl]
    rw [hl] at h1
    by_cases hlt : x.toNat < y.toNat
    · have := Nat.mul_le_mul_left (256 ^ b.length) (show x.toNat + 1 ≤ y.toNat from hlt)
      rw [Nat.mul_add, Nat.mul_one] at this
      rw [bl_lt hlt]; symm; simp; omega
    · by_cases he : x.toNat = y.toNat
      · obtain rfl : x = y := toNat_eq he
        rw [bl_eq, bl_big a b hl]
        simp
      · have := Nat.mul_le_mul_left (256 ^ b.length) (show y.toNat + 1 ≤ x.toNat by omega)
        rw [Nat.mul_add, Nat.mul_one] at this
        rw [bl_gt (by omega)]; symm; simp; omega
theorem bl_big8 {x y : Nat} (hx : x < 18446744073709551616) (hy : y < 18446744073709551616) : Op.bytesLess (big8 x) (big8 y) = decide (x < y) := by
  rw [bl_big _ _ (by rw [big8_len, big8_len])]
  unfold big8
  rw [List.reverse_reverse, List.reverse_reverse, big_little 8 x (Nat.lt_of_lt_of_le hx (by decide)), big_little 8 y (Nat.lt_of_lt_of_le hy (by decide))]
theorem esc_cons0 (l : List UInt8) : esc (0 :: l) = 0 :: 255 :: esc l := by simp [esc]
theorem esc_cons {c : UInt8} (h : ¬ c = 0) (l : List UInt8) : esc (c :: l) = c :: esc l := by simp [esc, h]
theorem nz {c : UInt8} (h : ¬ c = 0) : (0 : UInt8).toNat < c.toNat := by
  rcases Nat.eq_zero_or_pos c.toNat with e | e
  · exact absurd (toNat_eq (y := 0) e) h
  · exact e
theorem bl_esc : ∀ (s t : List UInt8), Op.bytesLess (esc s ++ [0, 0]) (esc t ++ [0, 0]) = Op.bytesLess s t
  | [], [] => rfl
  | [], d :: t => by
    by_cases hd : d = 0
    · subst hd; rw [esc_cons0]; simp only [esc, List.nil_append, List.cons_append]; rw [bl_eq, bl_lt (by decide), bl_first]
    · rw [esc_cons hd]; simp only [esc, List.nil_append, List.cons_append]; rw [bl_lt (nz hd), bl_first]
  | c :: s, [] => by
    rw [bl_nil]
    by_cases hc : c = 0
    · subst hc; rw [esc_cons0]; simp only [esc, List.nil_append, List.cons_append]; rw [bl_eq, bl_gt (by decide)]
    · rw [esc_cons hc]; simp only [esc, List.nil_append, List.cons_append]; rw [bl_gt (nz hc)]
  | c :: s, d :: t => by
    by_cases hc : c = 0
    · subst hc
      by_cases hd : d = 0
      · subst hd
        rw [esc_cons0, esc_cons0, List.cons_append, List.cons_append, List.cons_append, List.cons_append, bl_eq, bl_eq, bl_eq]; exact bl_esc s t
      · rw [esc_cons0, esc_cons hd]; simp only [List.cons_append]; rw [bl_lt (nz hd), bl_lt (nz hd)]
    · by_cases hd : d = 0
      · subst hd
        rw [esc_cons0, esc_cons hc]; simp only [List.cons_append]; rw [bl_gt (nz hc), bl_gt (nz hc)]
      · rw [esc_cons hc, esc_cons hd, List.cons_append, List.cons_append]
        by_cases h1 : c.toNat < d.toNat
        · rw [bl_lt h1, bl_lt h1]
        · by_cases h2 : c.toNat = d.toNat
          · obtain rfl : c = d := toNat_eq h2
            rw [bl_eq, bl_eq]; exact bl_esc s t
          · rw [bl_gt (by omega), bl_gt (by omega)]

theorem ktext_any (s : ByteArray) (hs : s.size ≤ 281474976710656) (w : World) : Calls Tryd.prog 29 #[.string s] w fun e w' => e = .returned (.agg #[.int .u8 116, .int .i64 0, .int .u64 0, .string s]) ∧ Below w.heap.size w w' := by
  have HS := Lib.hid hs
  clear hs
  go_enter Tryd.func29, Tryd.ntmps29
  go_wp2_with (go_at_call 44; with_reducible refine (clone_any s _ HS).mono ?_; rintro e w1 ⟨rfl, hb⟩; have hB := (hb.block w.heap.size (by simp)).trans (heap_alloc_new w _); have c0 := cell_in hB 0 _ rfl; have c1 := cell_in hB 1 _ rfl; have c2 := cell_in hB 2 _ rfl; have c3 := cell_in hB 3 _ rfl; have f0 := free_in hB 0; have f1 := free_in hB 1; have f2 := free_in hB 2; have f3 := free_in hB 3; have HB := Lib.hid hB; clear hB)
  have r0 := heap_set (heap_set (heap_set (heap_set HB.out 0 (.int .u8 116)) 1 (.int .i64 0)) 2 (.int .u64 0)) 3 (.string s)
  have k0 := cell_in r0 0 _ rfl
  have k1 := cell_in r0 1 _ rfl
  have k2 := cell_in r0 2 _ rfl
  have k3 := cell_in r0 3 _ rfl
  exact bodyPost_ret (v := .agg #[.int .u8 116, .int .i64 0, .int .u64 0, .string s]) (by simp [results, Tryd.results29, go_sem, k0, k1, k2, k3]) rfl ⟨rfl, (((((((Below.refl _ _).alloc (Nat.le_refl _) _).trans (hb.mono (by simp))).setCell (Nat.le_refl _) _).setCell (Nat.le_refl _) _).setCell (Nat.le_refl _) _).setCell (Nat.le_refl _) _)⟩
end Go.Proofs.YtelbhegkaihjhaaDoor
