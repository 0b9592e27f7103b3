/-
  Keys of numbers and of texts stand in their order: mathematics; and the walks of the calls that make them. Conditions: as each theorem states.
-/
import Derived.Test.YtlpobkgmpegfjaaDoorKyOrd
namespace Go.Proofs.YtlpobkgmpegfjaaDoor
open Go.RowKit
open Vi

theorem big_rev_cons (x : UInt8) (l : List UInt8) : big (x :: l).reverse = big l.reverse + 256 ^ l.length * x.toNat := by
  rw [List.reverse_cons, big_snoc, List.length_reverse]
theorem big_rev_lt (l : List UInt8) : big l.reverse < 256 ^ l.length := by
  have := big_lt l.reverse; rwa [List.length_reverse] at this
theorem bl_big : ∀ (a b : List UInt8), a.length = b.length → Op.bytesLess a b = decide (big a.reverse < big b.reverse)
  | [], [], _ => by rw [bl_nil]; simp
  | x :: a, y :: b, h => by
    have hl : a.length = b.length := by simpa using h
    have h1 := big_rev_lt a
    have h2 := big_rev_lt b
    rw [big_rev_cons, big_rev_cons, hl]
    rw [hl] at h1
    by_cases hlt : x.toNat < y.toNat
    · have := Nat.mul_le_mul_left (256 ^ b.length) (show x.toNat + 1 ≤ y.toNat from hlt)
      rw [Nat.mul_add, Nat.mul_one] at this
      rw [bl_lt hlt]; symm; simp; omega
    · by_cases he : x.toNat = y.toNat
      · obtain rfl : x = y := toNat_eq he
        rw [bl_eq, bl_big a b hl]
        simp
      · have := Nat.mul_le_mul_left (256 ^ b.length) (show y.toNat + 1 ≤ x.toNat by omega)
        rw [Nat.mul_add, Nat.mul_one] at this
        rw [bl_gt (by omega)]; symm; simp; omega
theorem bl_big8 {x y : Nat} (hx : x < 18446744073709551616) (hy : y < 18446744073709551616) : Op.bytesLess (big8 x) (big8 y) = decide (x < y) := by
  rw [bl_big _ _ (by rw [big8_len, big8_len])]
  unfold big8
  rw [List.reverse_reverse, List.reverse_reverse, big_little 8 x (Nat.lt_of_lt_of_le hx (by decide)), big_little 8 y (Nat.lt_of_lt_of_le hy (by decide))]
theorem esc_cons0 (l : List UInt8) : esc (0 :: l) = 0 :: 255 :: esc l := by simp [esc]
theorem esc_cons {c : UInt8} (h : ¬ c = 0) (l : List UInt8) : esc (c :: l) = c :: esc l := by simp [esc, h]
theorem nz {c : UInt8} (h : ¬ c = 0) : (0 : UInt8).toNat < c.toNat := by
  rcases Nat.eq_zero_or_pos c.toNat with e | e
  · exact absurd (toNat_eq (y := 0) e) h
  · exact e
theorem bl_esc : ∀ (s t : List UInt8), Op.bytesLess (esc s ++ [0, 0]) (esc t ++ [0, 0]) = Op.bytesLess s t
  | [], [] => rfl
  | [], d :: t => by
    by_cases hd : d = 0
    · subst hd; rw [esc_cons0]; simp only [esc, List.nil_append, List.cons_append]; rw [bl_eq, bl_lt (by decide), bl_first]
    · rw [esc_cons hd]; simp only [esc, List.nil_append, List.cons_append]; rw [bl_lt (nz hd), bl_first]
  | c :: s, [] => by
    rw [bl_nil]
    by_cases hc : c = 0
    · subst hc; rw [esc_cons0]; simp only [esc, List.nil_append, List.cons_append]; rw [bl_eq, bl_gt (by decide)]
    · rw [esc_cons hc]; simp only [esc, List.nil_append, List.cons_append]; rw [bl_gt (nz hc)]
  | c :: s, d :: t => by
    by_cases hc : c = 0
    · subst hc
      by_cases hd : d = 0
      · subst hd
        rw [esc_cons0, esc_cons0, List.cons_append, List.cons_append, List.cons_append, List.cons_append, bl_eq, bl_eq, bl_eq]; exact bl_esc s t
      · rw [esc_cons0, esc_cons hd]; simp only [List.cons_append]; rw [bl_lt (nz hd), bl_lt (nz hd)]
    · by_cases hd : d = 0
      · subst hd
        rw [esc_cons0, esc_cons hc]; simp only [List.cons_append]; rw [bl_gt (nz hc), bl_gt (nz hc)]
      · rw [esc_cons hc, esc_cons hd, List.cons_append, List.cons_append]
        by_cases h1 : c.toNat < d.toNat
        · rw [bl_lt h1, bl_lt h1]
        · by_cases h2 : c.toNat = d.toNat
          · obtain rfl : c = d := toNat_eq h2
            rw [bl_eq, bl_eq]; exact bl_esc s t
          · rw [bl_gt (by omega), bl_gt (by omega)]

theorem k_any {w : World} (p : KPart) (hp : p.ok) (hs : p.s.size ≤ 9223372036854775807) (L : List UInt8) (hL : pbytes p = (L, 0)) (h2 : L.length ≤ 200) (m : Int) (hm : w.cell? ⟨0, 0, none⟩ = some (.int .i64 m)) :
    Calls Tryd.prog 21 #[.agg #[.int .u8 p.sort, .int .i64 p.n, .int .u64 p.u, .string p.s]] w fun e w' => e = .returned (.string (bs L)) ∧ Below w.heap.size w w' := by
  have hc := make_one (w := w.alloc (.cells #[.int .u8 p.sort, .int .i64 p.n, .int .u64 p.u, .string p.s] 41)) p hp hs (by rw [hL]) (by rw [hL]; exact h2) m (cell_alloc0 hm _) 1
  have ez : (w.alloc (.cells #[.int .u8 p.sort, .int .i64 p.n, .int .u64 p.u, .string p.s] 41)).heap.size = w.heap.size + 1 := by simp
  rw [hL, ez] at hc
  have HC := Lib.hid hc
  clear hc hm ez
  go_enter Tryd.func21, Tryd.ntmps21
  go_wp2_with (go_at_call 9; refine HC.out.mono ?_; rintro e w1 ⟨rfl, hb⟩)
  go_ret
  exact ⟨rfl, ((Below.refl _ _).alloc (Nat.le_refl _) _).trans (hb.mono (by simp))⟩
theorem k_up {w : World} (n : Int) (h1 : -9223372036854775808 ≤ n) (h2 : n ≤ 9223372036854775807) (m : Int) (hm : w.cell? ⟨0, 0, none⟩ = some (.int .i64 m)) :
    Calls Tryd.prog 21 #[.agg #[.int .u8 105, .int .i64 n, .int .u64 0, .string ⟨#[]⟩]] w fun e w' => e = .returned (.string (bs (105 :: big8 (lift n)))) ∧ Below w.heap.size w w' :=
  k_any (kUp n) ⟨(show (105 : Nat) < 256 by decide), h1, h2, (show (0 : Nat) < 18446744073709551616 by decide)⟩ (show (ByteArray.mk #[]).size ≤ 9223372036854775807 by decide) _ (pbytes_i rfl) (by simp [big8_len]) m hm
theorem k_down {w : World} (n : Int) (h1 : -9223372036854775808 ≤ n) (h2 : n ≤ 9223372036854775807) (m : Int) (hm : w.cell? ⟨0, 0, none⟩ = some (.int .i64 m)) :
    Calls Tryd.prog 21 #[.agg #[.int .u8 100, .int .i64 n, .int .u64 0, .string ⟨#[]⟩]] w fun e w' => e = .returned (.string (bs (100 :: big8 (18446744073709551615 - lift n)))) ∧ Below w.heap.size w w' :=
  k_any (kDown n) ⟨(show (100 : Nat) < 256 by decide), h1, h2, (show (0 : Nat) < 18446744073709551616 by decide)⟩ (show (ByteArray.mk #[]).size ≤ 9223372036854775807 by decide) _ (pbytes_d rfl) (by simp [big8_len]) m hm
theorem k_count {w : World} (u : Nat) (h : u < 18446744073709551616) (m : Int) (hm : w.cell? ⟨0, 0, none⟩ = some (.int .i64 m)) :
    Calls Tryd.prog 21 #[.agg #[.int .u8 117, .int .i64 0, .int .u64 u, .string ⟨#[]⟩]] w fun e w' => e = .returned (.string (bs (117 :: big8 u))) ∧ Below w.heap.size w w' :=
  k_any (kCount u) ⟨(show (117 : Nat) < 256 by decide), (show (-9223372036854775808 : Int) ≤ 0 by decide), (show (0 : Int) ≤ 9223372036854775807 by decide), h⟩ (show (ByteArray.mk #[]).size ≤ 9223372036854775807 by decide) _ (pbytes_u rfl) (by simp [big8_len]) m hm
theorem k_text {w : World} (s : ByteArray) (h : s.size ≤ 90) (m : Int) (hm : w.cell? ⟨0, 0, none⟩ = some (.int .i64 m)) :
    Calls Tryd.prog 21 #[.agg #[.int .u8 116, .int .i64 0, .int .u64 0, .string s]] w fun e w' => e = .returned (.string (bs (116 :: (esc s.data.toList ++ [0, 0])))) ∧ Below w.heap.size w w' :=
  k_any (kText s) ⟨(show (116 : Nat) < 256 by decide), (show (-9223372036854775808 : Int) ≤ 0 by decide), (show (0 : Int) ≤ 9223372036854775807 by decide), (show (0 : Nat) < 18446744073709551616 by decide)⟩ (by show s.size ≤ _; omega) _ (pbytes_t rfl (by show ¬ 200 < s.size; omega)) (by
    have := esc_len s.data.toList
    rw [size_len] at this; simp; omega) m hm
theorem ktext_any (s : ByteArray) (hs : s.size ≤ 281474976710656) (w : World) : Calls Tryd.prog 25 #[.string s] w fun e w' => e = .returned (.agg #[.int .u8 116, .int .i64 0, .int .u64 0, .string s]) ∧ Below w.heap.size w w' := by
  have HS := Lib.hid hs
  clear hs
  go_enter Tryd.func25, Tryd.ntmps25
  go_wp2_with (go_at_call 34; with_reducible refine (clone_any s _ HS).mono ?_; rintro e w1 ⟨rfl, hb⟩; have hB := (hb.block w.heap.size (by simp)).trans (heap_alloc_new w _); have c0 := cell_in hB 0 _ rfl; have c1 := cell_in hB 1 _ rfl; have c2 := cell_in hB 2 _ rfl; have c3 := cell_in hB 3 _ rfl; have f0 := free_in hB 0; have f1 := free_in hB 1; have f2 := free_in hB 2; have f3 := free_in hB 3; have HB := Lib.hid hB; clear hB)
  have r0 := heap_set (heap_set (heap_set (heap_set HB.out 0 (.int .u8 116)) 1 (.int .i64 0)) 2 (.int .u64 0)) 3 (.string s)
  have k0 := cell_in r0 0 _ rfl
  have k1 := cell_in r0 1 _ rfl
  have k2 := cell_in r0 2 _ rfl
  have k3 := cell_in r0 3 _ rfl
  exact bodyPost_ret (v := .agg #[.int .u8 116, .int .i64 0, .int .u64 0, .string s]) (by simp [results, Tryd.results25, go_sem, k0, k1, k2, k3]) rfl ⟨rfl, (((((((Below.refl _ _).alloc (Nat.le_refl _) _).trans (hb.mono (by simp))).setCell (Nat.le_refl _) _).setCell (Nat.le_refl _) _).setCell (Nat.le_refl _) _).setCell (Nat.le_refl _) _)⟩
end Go.Proofs.YtlpobkgmpegfjaaDoor
