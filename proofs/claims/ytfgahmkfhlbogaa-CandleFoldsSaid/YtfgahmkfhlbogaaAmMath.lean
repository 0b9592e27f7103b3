/-
  Numbers that don't go round: what a sum, a difference, a product comes to, and whether it does. Mathematics only. No condition.
-/
import Derived.RowKit
namespace Go.Proofs.Ytfgahmkfhlbogaa.Am
open Go.RowKit

def rg (x : Int) : Prop := -9223372036854775808 ≤ x ∧ x ≤ 9223372036854775807
instance (x : Int) : Decidable (rg x) := by unfold rg; infer_instance
/-- What it comes to: 0 where it is too great. -/
def okv (x : Int) : Int := if rg x then x else 0
/-- Its error. -/
def erv (x : Int) : Int := if rg x then 0 else 24
theorem okv_in {x : Int} (h : rg x) : okv x = x := if_pos h
theorem erv_in {x : Int} (h : rg x) : erv x = 0 := if_pos h
theorem okv_out {x : Int} (h : ¬ rg x) : okv x = 0 := if_neg h
theorem erv_out {x : Int} (h : ¬ rg x) : erv x = 24 := if_neg h
/-- A cost, and its error. -/
def cov (x : Int) : Int := if rg x ∧ 0 ≤ x then x else 0
def cer (x : Int) : Int := if rg x then (if x < 0 then 25 else 0) else 24

theorem wrap_rg {x : Int} (h : rg x) : wrap64 x = x := by unfold rg at h; unfold wrap64; omega
theorem wrap_bd (x : Int) : rg (wrap64 x) := by unfold rg wrap64; omega
theorem wrap_gap (x : Int) : ∃ k : Int, wrap64 x = x + k * 18446744073709551616 :=
  ⟨- ((x + 9223372036854775808) / 18446744073709551616), by unfold wrap64; omega⟩

theorem add_ok {a b : Int} (ha : rg a) (hb : rg b) (h : (!decide (wrap64 (a + b) < a) == decide (b < 0)) = false) : rg (a + b) := by
  simp at h
  unfold rg at *
  unfold wrap64 at h
  by_cases h0 : b < 0
  · simp [h0] at h; omega
  · simp [h0] at h; omega
theorem add_bad {a b : Int} (ha : rg a) (hb : rg b) (h : (!decide (wrap64 (a + b) < a) == decide (b < 0)) = true) : ¬ rg (a + b) := by
  simp at h
  unfold rg at *
  unfold wrap64 at h
  by_cases h0 : b < 0
  · simp [h0] at h; omega
  · simp [h0] at h; omega
theorem sub_ok {a b : Int} (ha : rg a) (hb : rg b) (h : (!decide (a < wrap64 (a - b)) == decide (b < 0)) = false) : rg (a - b) := by
  simp at h
  unfold rg at *
  unfold wrap64 at h
  by_cases h0 : b < 0
  · simp [h0] at h; omega
  · simp [h0] at h; omega
theorem sub_bad {a b : Int} (ha : rg a) (hb : rg b) (h : (!decide (a < wrap64 (a - b)) == decide (b < 0)) = true) : ¬ rg (a - b) := by
  simp at h
  unfold rg at *
  unfold wrap64 at h
  by_cases h0 : b < 0
  · simp [h0] at h; omega
  · simp [h0] at h; omega

/-- A product that went round is known by its quotient. -/
theorem mul_quot {a b : Int} (ha : rg a) (h0 : a ≠ 0) (h1 : a ≠ -1) : (wrap64 (a * b)).tdiv a = b ↔ rg (a * b) := by
  constructor
  · intro h
    obtain ⟨k, hk⟩ := wrap_gap (a * b)
    have hd := Int.tmod_add_mul_tdiv (wrap64 (a * b)) a
    rw [h] at hd
    have hr : (wrap64 (a * b)).tmod a = k * 18446744073709551616 := by omega
    have hl : ((wrap64 (a * b)).tmod a).natAbs < a.natAbs := by
      have := Int.natAbs_tmod (wrap64 (a * b)) a
      rw [this]
      exact Nat.mod_lt _ (by omega)
    rw [hr] at hl
    unfold rg at ha
    have hk0 : k = 0 := by omega
    rw [hk0] at hk
    have := wrap_bd (a * b)
    rw [hk] at this
    simpa using this
  · intro h
    rw [wrap_rg h, Int.mul_tdiv_cancel_left _ h0]
theorem quot_rg {n a : Int} (hn : rg n) (h1 : a ≠ -1) : rg (n.tdiv a) := by
  unfold rg at *
  have h : (n.tdiv a).natAbs = n.natAbs / a.natAbs := Int.natAbs_tdiv n a
  by_cases ha : a.natAbs = 1
  · rw [ha, Nat.div_one] at h
    have : a = 1 := by omega
    subst this
    rw [Int.tdiv_one]; exact hn
  · have h2 : n.natAbs / a.natAbs ≤ n.natAbs / 2 ∨ a.natAbs = 0 := by
      by_cases h0 : a.natAbs = 0
      · exact .inr h0
      · exact .inl (Nat.div_le_div_left (by omega) (by omega))
    rcases h2 with h2 | h2
    · omega
    · rw [h2, Nat.div_zero] at h; omega
theorem mul_test {a b : Int} (ha : rg a) (h0 : a ≠ 0) (h1 : a ≠ -1) : wrap64 ((wrap64 (a * b)).tdiv a) = b ↔ rg (a * b) := by
  rw [wrap_rg (quot_rg (wrap_bd _) h1)]
  exact mul_quot ha h0 h1
/-! the document's way: by the sizes alone -/
theorem top_quot {x y : Int} (hy : 1 ≤ y) : x ≤ (9223372036854775807 : Int) / y ↔ x * y ≤ 9223372036854775807 :=
  Int.le_ediv_iff_mul_le (by omega)
theorem top_edge {x y : Int} (hx : 1 ≤ x) (hy : 1 ≤ y) (h : x * y = 9223372036854775808) : (9223372036854775807 : Int) / y = x - 1 ∧ (9223372036854775807 : Int) % y = y - 1 := by
  have e : (9223372036854775807 : Int) = (y - 1) + y * (x - 1) := by
    rw [Int.mul_sub, Int.mul_one, Int.mul_comm y x, h]; omega
  have h1 : (9223372036854775807 : Int) / y = x - 1 := by
    rw [e, Int.add_mul_ediv_left _ _ (by omega), Int.ediv_eq_zero_of_lt (by omega) (by omega)]; omega
  refine ⟨h1, ?_⟩
  have := Int.emod_add_mul_ediv 9223372036854775807 y
  rw [h1] at this
  omega
theorem edge_back {x y : Int} (hy : 1 ≤ y) (h1 : x - 1 = 9223372036854775807 / y) (h2 : (9223372036854775807 : Int) % y = y - 1) : x * y = 9223372036854775808 := by
  have := Int.emod_add_mul_ediv 9223372036854775807 y
  rw [← h1, h2, Int.mul_comm, Int.sub_mul] at this
  omega
theorem edge_mul {x y : Int} (h : x * y = 9223372036854775808) : (x - 1) * y + y - 1 = 9223372036854775807 := by
  rw [Int.sub_mul, h]; omega
end Go.Proofs.Ytfgahmkfhlbogaa.Am
