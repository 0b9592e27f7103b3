/-
  season's sizes, and a row's waves (Of), walked. Conditions: as each theorem states.
-/
import Derived.Test.YtmecpbgjienidaaSeB
import Derived.Test.YtmecpbgjienidaaNr
namespace Go.Proofs.Ytmecpbgjienidaa
open Go.RowKit
open Se Fl
attribute [local go_sem] run_store_float run_store_complex

theorem ret_u64 {a b : Int} (h : a = b) : Ending.returned (.int .u64 a) = .returned (.int .u64 b) := by rw [h]
theorem size_any (n : Int) (h : rg n) (w : World) : Calls Try.prog 16 #[.int .i64 n] w fun e w' => e = .returned (.int .u64 (n.natAbs : Nat)) ∧ w = w' := by
  obtain ⟨h1, h2⟩ := h
  by_cases hn : n < 0
  all_goals
    go_enter Try.func16, Try.ntmps16
    go_wp2
    go_ret
    exact ⟨ret_u64 (by first | omega | (rw [IntKind.wrap_u64, IntKind.wrap_u64]; omega)), rfl⟩

/-! ## a row's sums -/
def smk (l : List Int) : Nat → Nat → Int
  | 0, _ => 0
  | k + 1, j => smk l k j + if k % 4 = j then l.getD k 0 else 0
def tot (l : List Int) : Nat → Nat
  | 0 => 0
  | k + 1 => tot l k + (l.getD k 0).natAbs
theorem tot_mono (l : List Int) {p q : Nat} (h : p ≤ q) : tot l p ≤ tot l q := by
  induction q with
  | zero => rw [Nat.le_zero.1 h]; omega
  | succ q ih =>
    rcases Nat.eq_or_lt_of_le h with rfl | h
    · omega
    · have := ih (by omega)
      show tot l p ≤ tot l q + (l.getD q 0).natAbs
      omega
theorem smk_le (l : List Int) (k : Nat) : szs (smk l k) 4 ≤ tot l k := by
  induction k with
  | zero => simp [szs, smk, tot]
  | succ k ih =>
    have e : szs (smk l (k + 1)) 4 ≤ szs (smk l k) 4 + (l.getD k 0).natAbs := by
      simp only [szs, smk]
      have h4 : k % 4 < 4 := Nat.mod_lt _ (by decide)
      generalize k % 4 = r at *
      match r, h4 with
      | 0, _ => simp; omega
      | 1, _ => simp; omega
      | 2, _ => simp; omega
      | 3, _ => simp; omega
    show _ ≤ tot l k + (l.getD k 0).natAbs
    omega
def fset (f : Nat → Cw) (k : Nat) (c : Cw) : Nat → Cw := fun j => if j = k then c else f j
theorem fset_cv (f : Nat → Cw) (k : Nat) (c : Cw) : upd (fcv f) k (.complex .f64 c.re c.im) = fcv (fset f k c) := by
  funext j
  unfold upd fcv fset
  by_cases h : j = k <;> simp [h]
theorem smk_one (l : List Int) (k j : Nat) (hj : j < 4) : (smk l k j).natAbs ≤ tot l k := by
  have h := smk_le l k
  simp only [szs] at h
  match j, hj with
  | 0, _ => omega
  | 1, _ => omega
  | 2, _ => omega
  | 3, _ => omega
/-- The next number, at its place. -/
theorem wf_next {f : Nat → Cw} {l : List Int} {k : Nat} (h : WF f (smk l k) (fun _ => 0)) (ht : tot l (k + 1) ≤ 1125899906842624) :
    cSumBits .add .f64 (f (k % 4)).re (f (k % 4)).im (floatOfInt .f64 (l.getD k 0)) 0 = some ((addW (f (k % 4)) ⟨floatOfInt .f64 (l.getD k 0), 0⟩).re, (addW (f (k % 4)) ⟨floatOfInt .f64 (l.getD k 0), 0⟩).im) ∧
    WF (fset f (k % 4) (addW (f (k % 4)) ⟨floatOfInt .f64 (l.getD k 0), 0⟩)) (smk l (k + 1)) (fun _ => 0) := by
  have h4 : k % 4 < 4 := Nat.mod_lt _ (by decide)
  have e : tot l (k + 1) = tot l k + (l.getD k 0).natAbs := rfl
  have h1 := smk_one l k (k % 4) h4
  have hc : CF ⟨floatOfInt .f64 (l.getD k 0), 0⟩ (l.getD k 0) 0 := ⟨fl_int (by omega), fl_zero⟩
  refine ⟨addW_run (h _ h4) hc (by omega) (by simp), fun j hj => ?_⟩
  unfold fset
  by_cases hjk : j = k % 4
  · subst hjk
    rw [if_pos rfl]
    refine cf_cast (addW_cf (h _ h4) hc (by omega) (by simp)) ?_ rfl
    simp [smk]
  · rw [if_neg hjk]
    refine cf_cast (h j hj) ?_ rfl
    have : ¬ k % 4 = j := fun e => hjk e.symm
    simp [smk, this]
end Go.Proofs.Ytmecpbgjienidaa
