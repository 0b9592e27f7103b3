/-
  The power of a wave, walked. Conditions: the wave's parts are whole.
-/
import Derived.Test.YtmecpbgjienidaaSeE
namespace Go.Proofs.Ytmecpbgjienidaa
open Go.RowKit
open Se Fl
attribute [local go_sem] run_store_float run_store_complex

theorem fl_strong : Fl 4886405595696988160 4611686018427387904 := by
  refine ⟨false, 4503599627370496, 10, by decide, 0, 10, rfl, ?_⟩
  simp [sg]
def PwQ (x y : Int) (w : World) (e : Ending) (w' : World) : Prop :=
  ∃ p : Int, e = .returned (.int .i64 p) ∧ -1 ≤ p ∧ (x.natAbs < 1048576 → y.natAbs < 1048576 → p = x * x + y * y) ∧ Below w.heap.size w w'
theorem sq_small {x : Int} (h : x.natAbs < 1048576) : (x * x).natAbs ≤ 1099511627776 := by
  rw [Int.natAbs_mul]
  exact Nat.le_trans (Nat.mul_le_mul (Nat.le_of_lt h) (Nat.le_of_lt h)) (by decide)
/-- What the power's floats are. -/
theorem power_words {c : Cw} {x y : Int} (h : CF c x y) : ∃ r1 r2 r3 : Nat, floatBits .mul .f64 c.re c.re = some r1 ∧ floatBits .mul .f64 c.im c.im = some r2 ∧ floatBits .add .f64 r1 r2 = some r3 ∧
    ((∃ n : Int, FloatKind.f64.format.order r3 4886405595696988160 = some .lt ∧ floatToIntVal .f64 r3 .i64 = some n ∧ 0 ≤ n ∧ (x.natAbs < 1048576 → y.natAbs < 1048576 → n = x * x + y * y)) ∨
      ((FloatKind.f64.format.order r3 4886405595696988160 == some .lt) = false ∧ (x.natAbs < 1048576 → y.natAbs < 1048576 → False))) := by
  obtain ⟨s1, m1, p1, e1, _⟩ := h.1
  obtain ⟨s2, m2, p2, e2, _⟩ := h.2
  obtain ⟨r1, hr1, u1⟩ := up_square e1
  obtain ⟨r2, hr2, u2⟩ := up_square e2
  obtain ⟨r3, hr3, u3⟩ := up_add u1 u2
  refine ⟨r1, r2, r3, hr1, hr2, hr3, ?_⟩
  have small : x.natAbs < 1048576 → y.natAbs < 1048576 → Fl r3 (x * x + y * y) ∧ (x * x + y * y).natAbs ≤ 2199023255552 := fun hx hy => by
    have k1 := sq_small hx
    have k2 := sq_small hy
    obtain ⟨q1, g1, f1⟩ := fl_mul h.1 h.1 (by omega)
    obtain ⟨q2, g2, f2⟩ := fl_mul h.2 h.2 (by omega)
    obtain rfl : r1 = q1 := Option.some.inj (hr1.symm.trans g1)
    obtain rfl : r2 = q2 := Option.some.inj (hr2.symm.trans g2)
    obtain ⟨q3, g3, f3⟩ := fl_add f1 f2 (by omega)
    obtain rfl : r3 = q3 := Option.some.inj (hr3.symm.trans g3)
    exact ⟨f3, by omega⟩
  by_cases hlt : FloatKind.f64.format.order r3 4886405595696988160 = some .lt
  · obtain ⟨n, hn, h0, h1⟩ := up_toInt u3 fl_strong hlt
    have hv : floatToIntVal .f64 r3 .i64 = some n := by
      unfold floatToIntVal
      show (match (Ieee.double.read r3).toInt .zero with | some n => if IntKind.i64.min ≤ n ∧ n ≤ IntKind.i64.max then some n else none | none => none) = _
      rw [hn]
      have k1 : IntKind.i64.min ≤ n := by show (-9223372036854775808 : Int) ≤ n; omega
      have k2 : n ≤ IntKind.i64.max := by show n ≤ (9223372036854775807 : Int); omega
      exact if_pos ⟨k1, k2⟩
    refine .inl ⟨n, hlt, hv, h0, fun hx hy => ?_⟩
    obtain ⟨f3, hb⟩ := small hx hy
    have h4 := fl_toInt f3 .i64 (by show (-9223372036854775808 : Int) ≤ _; omega) (by show _ ≤ (9223372036854775807 : Int); omega)
    exact Option.some.inj (hv.symm.trans h4)
  · refine .inr ⟨by simpa using hlt, fun hx hy => ?_⟩
    obtain ⟨f3, hb⟩ := small hx hy
    have h5 := fl_lt f3 fl_strong
    have h6 : decide (x * x + y * y < 4611686018427387904) = true := decide_eq_true (by omega)
    rw [h6] at h5
    exact hlt (eq_of_beq h5)
set_option maxHeartbeats 1000000 in
theorem power_any (f : Nat → Cw) (X Y : Nat → Int) (hf : WF f X Y) (m : Int) (h1 : -9223372036854775808 ≤ m) (h2 : m ≤ 9223372036854775807) (w : World) :
    Calls Try.prog 10 #[wv f, .int .i64 m] w (PwQ (X (m % 4).toNat) (Y (m % 4).toNat) w) := by
  refine (show Calls Try.prog 10 #[.agg #[fcv f 0, fcv f 1, fcv f 2, fcv f 3], .int .i64 m] w _ from ?_)
  have hand := and3 h1 h2
  have hk : (m % 4).toNat < 4 := by omega
  have hc := hf _ hk
  obtain ⟨r1, r2, r3, q1, q2, q3, hor⟩ := power_words hc
  have HOR := Lib.hid hor
  have HB := Lib.hid (B4.new w (fcv f) 26)
  clear hor hc
  generalize (m % 4).toNat = k at *
  obtain ⟨hcl, _⟩ := HB.out.2 k hk
  have hcl2 : (w.alloc (.cells #[fcv f 0, fcv f 1, fcv f 2, fcv f 3] 26)).cell? ⟨w.heap.size, k, none⟩ = some (.complex .f64 (f k).re (f k).im) := hcl
  have run1 : ∀ W, (binOp .mul 33 (.float .f64 (f k).re) (.float .f64 (f k).re)).run Try.prog W = .ok (.float .f64 r1) W := fun W => run_float_arith W .mul _ _ _ _ _ q1
  have run2 : ∀ W, (binOp .mul 33 (.float .f64 (f k).im) (.float .f64 (f k).im)).run Try.prog W = .ok (.float .f64 r2) W := fun W => run_float_arith W .mul _ _ _ _ _ q2
  have run3 : ∀ W, (binOp .add 33 (.float .f64 r1) (.float .f64 r2)).run Try.prog W = .ok (.float .f64 r3) W := fun W => run_float_arith W .add _ _ _ _ _ q3
  have hsz : (w.alloc (.cells #[fcv f 0, fcv f 1, fcv f 2, fcv f 3] 26)).heap.size = w.heap.size + 1 := by simp
  have hbel : Below w.heap.size w (w.alloc (.cells #[fcv f 0, fcv f 1, fcv f 2, fcv f 3] 26)) := (Below.refl _ w).alloc (Nat.le_refl _) _
  clear hcl q1 q2 q3 hsz
  rcases HOR.out with ⟨n, hlt, hcv, h0, hsm⟩ | ⟨hlt, hsm⟩
  · have hlt2 : (FloatKind.f64.format.order r3 4886405595696988160 == some .lt) = true := by rw [hlt]; rfl
    have run4 : ∀ W, (convert 33 2 (.float .f64 r3)).run Try.prog W = .ok (.int .i64 n) W := fun W => run_convert_float_int W _ _ _ _ _ _ (by rw [Try.underlying33]; rfl) Try.underlying2 hcv
    have HS := Lib.hid hsm
    clear hsm hlt HOR hcv
    go_enter Try.func10, Try.ntmps10
    go_wp2
    go_ret
    exact ⟨n, rfl, by omega, HS.out, hbel⟩
  · have HS := Lib.hid hsm
    clear hsm HOR
    go_enter Try.func10, Try.ntmps10
    go_wp2
    go_ret
    exact ⟨_, rfl, by decide, fun hx hy => (HS.out hx hy).elim, hbel⟩
end Go.Proofs.Ytmecpbgjienidaa
