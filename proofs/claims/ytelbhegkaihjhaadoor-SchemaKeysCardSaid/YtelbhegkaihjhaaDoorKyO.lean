/-
  The order of keys, part by part: mathematics only. Conditions: as each theorem states.
-/
import Derived.Test.YtelbhegkaihjhaaDoorKyN
namespace Go.Proofs.YtelbhegkaihjhaaDoor
open Go.RowKit
open Vi

theorem bl_same : ∀ (a r s : List UInt8), Op.bytesLess (a ++ r) (a ++ s) = Op.bytesLess r s
  | [], _, _ => rfl
  | c :: a, r, s => by rw [List.cons_append, List.cons_append, bl_eq]; exact bl_same a r s
theorem bl_apart : ∀ (a b r s : List UInt8), a.length = b.length → ¬ a = b → Op.bytesLess (a ++ r) (b ++ s) = Op.bytesLess a b
  | [], [], _, _, _, h => absurd rfl h
  | x :: a, y :: b, r, s, hl, h => by
    rw [List.cons_append, List.cons_append]
    by_cases h1 : x.toNat < y.toNat
    · rw [bl_lt h1, bl_lt h1]
    · by_cases h2 : x.toNat = y.toNat
      · obtain rfl : x = y := toNat_eq h2
        rw [bl_eq, bl_eq]
        exact bl_apart a b r s (by simpa using hl) (fun e => h (by rw [e]))
      · rw [bl_gt (by omega), bl_gt (by omega)]
/-- texts in keys, whatever is behind them -/
theorem bl_text : ∀ (s t r q : List UInt8), ¬ s = t → Op.bytesLess (esc s ++ (0 :: 0 :: r)) (esc t ++ (0 :: 0 :: q)) = Op.bytesLess s t
  | [], [], _, _, h => absurd rfl h
  | [], d :: t, r, q, _ => by
    by_cases hd : d = 0
    · subst hd; rw [esc_cons0]; simp only [esc, List.nil_append, List.cons_append]; rw [bl_eq, bl_lt (by decide), bl_first]
    · rw [esc_cons hd]; simp only [esc, List.nil_append, List.cons_append]; rw [bl_lt (nz hd), bl_first]
  | c :: s, [], r, q, _ => by
    rw [bl_nil]
    by_cases hc : c = 0
    · subst hc; rw [esc_cons0]; simp only [esc, List.nil_append, List.cons_append]; rw [bl_eq, bl_gt (by decide)]
    · rw [esc_cons hc]; simp only [esc, List.nil_append, List.cons_append]; rw [bl_gt (nz hc)]
  | c :: s, d :: t, r, q, h => by
    by_cases hc : c = 0
    · subst hc
      by_cases hd : d = 0
      · subst hd
        rw [esc_cons0, esc_cons0, List.cons_append, List.cons_append, List.cons_append, List.cons_append, bl_eq, bl_eq, bl_eq]
        exact bl_text s t r q (fun e => h (by rw [e]))
      · rw [esc_cons0, esc_cons hd]; simp only [List.cons_append]; rw [bl_lt (nz hd), bl_lt (nz hd)]
    · by_cases hd : d = 0
      · subst hd
        rw [esc_cons0, esc_cons hc]; simp only [List.cons_append]; rw [bl_gt (nz hc), bl_gt (nz hc)]
      · rw [esc_cons hc, esc_cons hd, List.cons_append, List.cons_append]
        by_cases h1 : c.toNat < d.toNat
        · rw [bl_lt h1, bl_lt h1]
        · by_cases h2 : c.toNat = d.toNat
          · obtain rfl : c = d := toNat_eq h2
            rw [bl_eq, bl_eq]; exact bl_text s t r q (fun e => h (by rw [e]))
          · rw [bl_gt (by omega), bl_gt (by omega)]
/-- numbers in keys, whatever is behind them -/
theorem bl_number {x y : Nat} (hx : x < 18446744073709551616) (hy : y < 18446744073709551616) (h : ¬ x = y) (r q : List UInt8) : Op.bytesLess (big8 x ++ r) (big8 y ++ q) = decide (x < y) := by
  rw [bl_apart _ _ _ _ (by rw [big8_len, big8_len]) (fun e => h (by
    have h1 := be8_big8 hx []
    have h2 := be8_big8 hy []
    rw [e] at h1
    exact h1.symm.trans h2)), bl_big8 hx hy]
end Go.Proofs.YtelbhegkaihjhaaDoor
