/-
  Sums, differences, products and costs, walked: the document's. Conditions: the numbers are of 64 bits.
-/
import Derived.Test.YtidbefagbjlomaaAmA
namespace Go.Proofs.Ytidbefagbjlomaa
open Go.RowKit
open Am

theorem radd_any (a b : Int) (ha : rg a) (hb : rg b) (w : World) :
    Calls Try.prog 9 #[.int .i64 a, .int .i64 b] w (Two w (okv (a + b)) (erv (a + b))) := by
  have HA := Lib.hid ha
  have HB := Lib.hid hb
  clear ha hb
  go_enter Try.func9, Try.ntmps9
  go_wp2
  all_goals
    first
      | (have h2 : rg (a + b) := by
           have A := HA.out
           have B := HB.out
           clear HA HB
           unfold rg at A B ⊢
           try unfold wrap64 at *
           omega
         go_ret2
         exact two_mk (by rw [okv_in h2, wrap_rg h2]) (erv_in h2).symm (Below.refl _ _))
      | (have h2 : ¬ rg (a + b) := by
           have A := HA.out
           have B := HB.out
           clear HA HB
           unfold rg at A B ⊢
           try unfold wrap64 at *
           omega
         go_ret2
         exact two_mk (okv_out h2).symm (erv_out h2).symm (Below.refl _ _))
theorem rsub_any (a b : Int) (ha : rg a) (hb : rg b) (w : World) :
    Calls Try.prog 11 #[.int .i64 a, .int .i64 b] w (Two w (okv (a - b)) (erv (a - b))) := by
  have HA := Lib.hid ha
  have HB := Lib.hid hb
  clear ha hb
  go_enter Try.func11, Try.ntmps11
  go_wp2
  all_goals
    first
      | (have h2 : rg (a - b) := by
           have A := HA.out
           have B := HB.out
           clear HA HB
           unfold rg at A B ⊢
           try unfold wrap64 at *
           omega
         go_ret2
         exact two_mk (by rw [okv_in h2, wrap_rg h2]) (erv_in h2).symm (Below.refl _ _))
      | (have h2 : ¬ rg (a - b) := by
           have A := HA.out
           have B := HB.out
           clear HA HB
           unfold rg at A B ⊢
           try unfold wrap64 at *
           omega
         go_ret2
         exact two_mk (okv_out h2).symm (erv_out h2).symm (Below.refl _ _))
theorem rright_any (a b : Int) (w : World) :
    Calls Try.prog 17 #[.int .i64 a, .int .i64 b] w fun e w' => e = .returned (.int .i64 (rightI a b)) ∧ Below w.heap.size w w' := by
  go_enter Try.func17, Try.ntmps17
  go_wp2
  all_goals
    go_ret
    refine ⟨?_, Below.refl _ _⟩
    unfold rightI
    first
      | (simp_all; done)
      | (rw [if_neg (by omega), if_neg (by omega)]; rfl)
theorem rmul_zero (a b : Int) (h : a = 0 ∨ b = 0) (w : World) :
    Calls Try.prog 13 #[.int .i64 a, .int .i64 b] w (Two w (okv (a * b)) (erv (a * b))) := by
  have e : a * b = 0 := by rcases h with rfl | rfl <;> simp
  rw [e, okv_in (by decide), erv_in (by decide)]
  clear e
  rcases h with rfl | rfl
  all_goals
    go_enter Try.func13, Try.ntmps13
    go_wp2
    all_goals
      go_ret2
      exact two_mk rfl rfl (Below.refl _ _)
theorem rmul_bot (a : Int) (ha : rg a) (h0 : a ≠ 0) (w : World) :
    Calls Try.prog 13 #[.int .i64 a, .int .i64 (-9223372036854775808)] w (Two w (okv (a * -9223372036854775808)) (erv (a * -9223372036854775808))) := by
  by_cases h1 : a = 1
  · subst h1
    rw [show (1 : Int) * -9223372036854775808 = -9223372036854775808 by decide, okv_in (by decide), erv_in (by decide)]
    go_enter Try.func13, Try.ntmps13
    go_wp2
    go_ret2
    exact two_mk rfl rfl (Below.refl _ _)
  · have h2 : ¬ rg (a * -9223372036854775808) := by unfold rg at *; omega
    rw [okv_out h2, erv_out h2]
    clear h2 ha
    go_enter Try.func13, Try.ntmps13
    go_wp2
    all_goals
      go_ret2
      exact two_mk rfl rfl (Below.refl _ _)
theorem rmul_bot2 (b : Int) (hb : rg b) (h0 : b ≠ 0) (h3 : b ≠ -9223372036854775808) (w : World) :
    Calls Try.prog 13 #[.int .i64 (-9223372036854775808), .int .i64 b] w (Two w (okv (-9223372036854775808 * b)) (erv (-9223372036854775808 * b))) := by
  by_cases h1 : b = 1
  · subst h1
    rw [show -9223372036854775808 * (1 : Int) = -9223372036854775808 by decide, okv_in (by decide), erv_in (by decide)]
    go_enter Try.func13, Try.ntmps13
    go_wp2
    go_ret2
    exact two_mk rfl rfl (Below.refl _ _)
  · have h2 : ¬ rg (-9223372036854775808 * b) := by unfold rg at *; omega
    rw [okv_out h2, erv_out h2]
    clear h2 hb
    go_enter Try.func13, Try.ntmps13
    go_wp2
    all_goals
      go_ret2
      exact two_mk rfl rfl (Below.refl _ _)
theorem rmul_pp (x y : Int) (hx : 1 ≤ x) (hy : 1 ≤ y) (hx2 : x ≤ 9223372036854775807) (hy2 : y ≤ 9223372036854775807) (w : World) :
    Calls Try.prog 13 #[.int .i64 x, .int .i64 y] w (Two w (okv ((x * y))) (erv ((x * y)))) := by
  have TQ := Lib.hid (top_quot (x := x) hy)
  have x0 : (x == 0) = false := by simp; omega
  have y0 : (y == 0) = false := by simp; omega
  have x1 : (x == -9223372036854775808) = false := by simp; omega
  have y1 : (y == -9223372036854775808) = false := by simp; omega
  have x3 : ¬ x < 0 := by omega
  have y3 : ¬ y < 0 := by omega
  have x4 : wrap64 x = x := wrap_rg ⟨by omega, hx2⟩
  have y4 : wrap64 y = y := wrap_rg ⟨by omega, hy2⟩
  by_cases hc : x * y ≤ 9223372036854775807
  · have hq : ¬ 9223372036854775807 / y < x := by have := TQ.out.2 hc; omega
    have hp : 0 ≤ x * y := Int.mul_nonneg (by omega) (by omega)
    have hr : rg ((x * y)) := by unfold rg; omega
    have hw : wrap64 (x * y) = x * y := wrap_rg (by unfold rg; omega)
    rw [okv_in hr, erv_in hr]
    have HR := Lib.hid hr
    clear hr hc hp
    go_enter Try.func13, Try.ntmps13
    go_wp2
    go_ret2
    exact two_mk rfl rfl (Below.refl _ _)
  · have hq : 9223372036854775807 / y < x := by have := TQ.out; omega
    have hr : ¬ rg (x * y) := by unfold rg; omega
    rw [okv_out hr, erv_out hr]
    clear hr hc
    go_enter Try.func13, Try.ntmps13
    go_wp2
    go_ret2
    exact two_mk rfl rfl (Below.refl _ _)
theorem rmul_nn (x y : Int) (hx : 1 ≤ x) (hy : 1 ≤ y) (hx2 : x ≤ 9223372036854775807) (hy2 : y ≤ 9223372036854775807) (w : World) :
    Calls Try.prog 13 #[.int .i64 (-x), .int .i64 (-y)] w (Two w (okv ((x * y))) (erv ((x * y)))) := by
  have TQ := Lib.hid (top_quot (x := x) hy)
  have x0 : ((-x) == 0) = false := by simp; omega
  have y0 : ((-y) == 0) = false := by simp; omega
  have x1 : ((-x) == -9223372036854775808) = false := by simp; omega
  have y1 : ((-y) == -9223372036854775808) = false := by simp; omega
  have x3 : (-x) < 0 := by omega
  have y3 : (-y) < 0 := by omega
  have x4 : wrap64 x = x := wrap_rg ⟨by omega, hx2⟩
  have y4 : wrap64 y = y := wrap_rg ⟨by omega, hy2⟩
  by_cases hc : x * y ≤ 9223372036854775807
  · have hq : ¬ 9223372036854775807 / y < x := by have := TQ.out.2 hc; omega
    have hp : 0 ≤ x * y := Int.mul_nonneg (by omega) (by omega)
    have hr : rg ((x * y)) := by unfold rg; omega
    have hw : wrap64 (x * y) = x * y := wrap_rg (by unfold rg; omega)
    rw [okv_in hr, erv_in hr]
    have HR := Lib.hid hr
    clear hr hc hp
    go_enter Try.func13, Try.ntmps13
    go_wp2
    · rename_i h
      exact absurd h (by simp [show 0 < x by omega, show 0 < y by omega])
    · go_ret2
      exact two_mk rfl rfl (Below.refl _ _)
  · have hq : 9223372036854775807 / y < x := by have := TQ.out; omega
    have hr : ¬ rg (x * y) := by unfold rg; omega
    rw [okv_out hr, erv_out hr]
    clear hr hc
    go_enter Try.func13, Try.ntmps13
    go_wp2
    go_ret2
    exact two_mk rfl rfl (Below.refl _ _)
theorem rmul_pn (x y : Int) (hx : 1 ≤ x) (hy : 1 ≤ y) (hx2 : x ≤ 9223372036854775807) (hy2 : y ≤ 9223372036854775807) (w : World) :
    Calls Try.prog 13 #[.int .i64 x, .int .i64 (-y)] w (Two w (okv (-(x * y))) (erv (-(x * y)))) := by
  have TQ := Lib.hid (top_quot (x := x) hy)
  have x0 : (x == 0) = false := by simp; omega
  have y0 : ((-y) == 0) = false := by simp; omega
  have x1 : (x == -9223372036854775808) = false := by simp; omega
  have y1 : ((-y) == -9223372036854775808) = false := by simp; omega
  have x3 : ¬ x < 0 := by omega
  have y3 : (-y) < 0 := by omega
  have x4 : wrap64 x = x := wrap_rg ⟨by omega, hx2⟩
  have y4 : wrap64 y = y := wrap_rg ⟨by omega, hy2⟩
  by_cases hc : x * y ≤ 9223372036854775807
  · have hq : ¬ 9223372036854775807 / y < x := by have := TQ.out.2 hc; omega
    have hp : 0 ≤ x * y := Int.mul_nonneg (by omega) (by omega)
    have hr : rg (-(x * y)) := by unfold rg; omega
    have hw : wrap64 (x * y) = x * y := wrap_rg (by unfold rg; omega)
    rw [okv_in hr, erv_in hr]
    have HR := Lib.hid hr
    clear hr hc hp
    go_enter Try.func13, Try.ntmps13
    go_wp2
    go_ret2
    exact two_mk (wrap_rg HR.out) rfl (Below.refl _ _)
  · have hq : 9223372036854775807 / y < x := by have := TQ.out; omega
    by_cases he : x * y = 9223372036854775808
    · obtain ⟨q1, q2⟩ := top_edge hx hy he
      have q3 := edge_mul he
      have q4 : wrap64 ((x - 1) * y) = (x - 1) * y := wrap_rg (by unfold rg; omega)
      have hr : rg (-(x * y)) := by rw [he]; decide
      rw [okv_in hr, erv_in hr, he]
      clear hr hc he
      go_enter Try.func13, Try.ntmps13
      go_wp2
      · go_ret2
        exact two_mk rfl rfl (Below.refl _ _)
      · rename_i h
        exact absurd h (by rw [show (x - 1) * y + y = 9223372036854775808 by omega]; unfold wrap64; decide)
    · have hr : ¬ rg (-(x * y)) := by unfold rg; omega
      rw [okv_out hr, erv_out hr]
      have HE := Lib.hid he
      clear hr hc he
      go_enter Try.func13, Try.ntmps13
      go_wp2
      · rename_i h2 h3 h4
        exact absurd (edge_back hy h2 h3) HE.out
      all_goals
        go_ret2
        exact two_mk rfl rfl (Below.refl _ _)
theorem rmul_np (x y : Int) (hx : 1 ≤ x) (hy : 1 ≤ y) (hx2 : x ≤ 9223372036854775807) (hy2 : y ≤ 9223372036854775807) (w : World) :
    Calls Try.prog 13 #[.int .i64 (-x), .int .i64 y] w (Two w (okv (-(x * y))) (erv (-(x * y)))) := by
  have TQ := Lib.hid (top_quot (x := x) hy)
  have x0 : ((-x) == 0) = false := by simp; omega
  have y0 : (y == 0) = false := by simp; omega
  have x1 : ((-x) == -9223372036854775808) = false := by simp; omega
  have y1 : (y == -9223372036854775808) = false := by simp; omega
  have x3 : (-x) < 0 := by omega
  have y3 : ¬ y < 0 := by omega
  have x4 : wrap64 x = x := wrap_rg ⟨by omega, hx2⟩
  have y4 : wrap64 y = y := wrap_rg ⟨by omega, hy2⟩
  by_cases hc : x * y ≤ 9223372036854775807
  · have hq : ¬ 9223372036854775807 / y < x := by have := TQ.out.2 hc; omega
    have hp : 0 ≤ x * y := Int.mul_nonneg (by omega) (by omega)
    have hr : rg (-(x * y)) := by unfold rg; omega
    have hw : wrap64 (x * y) = x * y := wrap_rg (by unfold rg; omega)
    rw [okv_in hr, erv_in hr]
    have HR := Lib.hid hr
    clear hr hc hp
    go_enter Try.func13, Try.ntmps13
    go_wp2
    go_ret2
    exact two_mk (wrap_rg HR.out) rfl (Below.refl _ _)
  · have hq : 9223372036854775807 / y < x := by have := TQ.out; omega
    by_cases he : x * y = 9223372036854775808
    · obtain ⟨q1, q2⟩ := top_edge hx hy he
      have q3 := edge_mul he
      have q4 : wrap64 ((x - 1) * y) = (x - 1) * y := wrap_rg (by unfold rg; omega)
      have hr : rg (-(x * y)) := by rw [he]; decide
      rw [okv_in hr, erv_in hr, he]
      clear hr hc he
      go_enter Try.func13, Try.ntmps13
      go_wp2
      · go_ret2
        exact two_mk rfl rfl (Below.refl _ _)
      · rename_i h
        exact absurd h (by rw [show (x - 1) * y + y = 9223372036854775808 by omega]; unfold wrap64; decide)
    · have hr : ¬ rg (-(x * y)) := by unfold rg; omega
      rw [okv_out hr, erv_out hr]
      have HE := Lib.hid he
      clear hr hc he
      go_enter Try.func13, Try.ntmps13
      go_wp2
      · rename_i h2 h3 h4
        exact absurd (edge_back hy h2 h3) HE.out
      all_goals
        go_ret2
        exact two_mk rfl rfl (Below.refl _ _)
theorem neg_form {x : Int} (h : x < 0) : ∃ y : Int, x = -y ∧ 1 ≤ y := ⟨-x, by omega, by omega⟩
theorem rmul_any (a b : Int) (ha : rg a) (hb : rg b) (w : World) :
    Calls Try.prog 13 #[.int .i64 a, .int .i64 b] w (Two w (okv (a * b)) (erv (a * b))) := by
  by_cases h0 : a = 0 ∨ b = 0
  · exact rmul_zero a b h0 w
  by_cases h1 : b = -9223372036854775808
  · subst h1
    exact rmul_bot a ha (by omega) w
  by_cases h2 : a = -9223372036854775808
  · subst h2
    exact rmul_bot2 b hb (by omega) h1 w
  unfold rg at ha hb
  by_cases hx : a < 0
  · obtain ⟨x, rfl, hx1⟩ := neg_form hx
    by_cases hy : b < 0
    · obtain ⟨y, rfl, hy1⟩ := neg_form hy
      rw [Int.neg_mul_neg]
      exact rmul_nn x y hx1 hy1 (by omega) (by omega) w
    · rw [Int.neg_mul]
      exact rmul_np x b hx1 (by omega) (by omega) (by omega) w
  · by_cases hy : b < 0
    · obtain ⟨y, rfl, hy1⟩ := neg_form hy
      rw [Int.mul_neg]
      exact rmul_pn a y (by omega) hy1 (by omega) (by omega) w
    · exact rmul_pp a b (by omega) (by omega) (by omega) (by omega) w
theorem rcost_any (a b : Int) (ha : rg a) (hb : rg b) (w : World) :
    Calls Try.prog 15 #[.int .i64 a, .int .i64 b] w (Two w (cov (a * b)) (cer (a * b))) := by
  have HM := Lib.hid (rmul_any a b ha hb)
  clear ha hb
  by_cases hr : rg (a * b)
  · by_cases hn : a * b < 0
    all_goals
      have ev := erv_in hr
      have ov := okv_in hr
      go_enter Try.func15, Try.ntmps15
      go_wp2_with (go_at_call 13; refine (HM.out _).mono ?_; rintro e w1 ⟨rfl, hb1⟩; rw [ev, ov])
      go_ret2
      exact two_mk (by unfold cov; simp [hr]; try omega) (by unfold cer; simp [hr, hn]) hb1
  · have ev := erv_out hr
    have ov := okv_out hr
    go_enter Try.func15, Try.ntmps15
    go_wp2_with (go_at_call 13; refine (HM.out _).mono ?_; rintro e w1 ⟨rfl, hb1⟩; rw [ev, ov])
    go_ret2
    exact two_mk (by unfold cov; simp [hr]) (by unfold cer; simp [hr]) hb1
end Go.Proofs.Ytidbefagbjlomaa
