/-
  The law AmountAffords returns true at every input. No condition.
-/
import Derived.Test.YtidbefagbjlomaaAmC
namespace Go.Proofs.Ytidbefagbjlomaa.amountAffords
open Go.ChangeShapes Go.WideShapes Go.ChangeAt Go.RowKit
open Go.Proofs.Ytidbefagbjlomaa
open Am

theorem aff_facts {c p : Int} (hc : rg c) (h1 : ¬ p < 1) (h2 : ¬ c < p) :
    rg (p * (c / p)) ∧ ¬ p * (c / p) < 0 ∧ p * (c / p) ≤ c ∧ 1 ≤ c / p ∧ c < p * (c / p + 1) ∧ rg (c / p) ∧ (c / p = 9223372036854775807 → p = 1) := by
  have hd := Int.emod_add_mul_ediv c p
  have hm := Int.emod_nonneg c (b := p) (by omega)
  have hl := Int.emod_lt_of_pos c (b := p) (by omega)
  have hq : 1 ≤ c / p := (Int.le_ediv_iff_mul_le (by omega)).2 (by omega)
  have hle : c / p ≤ c := Int.ediv_le_self _ (by omega)
  have hm2 : 0 ≤ p * (c / p) := Int.mul_nonneg (by omega) (by omega)
  have e : p * (c / p + 1) = p * (c / p) + p := by rw [Int.mul_add, Int.mul_one]
  unfold rg at *
  refine ⟨by omega, by omega, by omega, hq, by omega, by omega, fun h => ?_⟩
  rw [h] at hd hm2
  omega
theorem walk_none (c : Int) (a1 : -9223372036854775808 ≤ c) (a2 : c ≤ 9223372036854775807) (p : Int) (b1 : -9223372036854775808 ≤ p) (b2 : p ≤ 9223372036854775807) (h : p < 1 ∨ c < p) (w : World) : Calls Try.prog 5 #[.int .i64 c, .int .i64 p] w fun e w' => e = .returned (.bool true) ∧ Below w.heap.size w w' := by
  have c1 := afford_any c p ⟨a1, a2⟩
  rw [show affI c p = 0 from if_pos h] at c1
  replace c1 := Lib.hid c1
  by_cases h1 : p < 1
  · clear h
    go_enter Try.func5, Try.ntmps5
    go_wp2_with (first
      | (go_at_call 7; refine (awake19_any _).mono ?_; rintro e w1 ⟨rfl, hb⟩)
      | (go_at_call 20; (with_reducible refine (c1.out _).mono ?_); rintro e w2 ⟨rfl, hb'⟩; have hb := hb.trans (hb'.mono hb.size); clear hb'))
    go_ret
    exact ⟨rfl, hb⟩
  · have h2 : c < p := by omega
    clear h
    go_enter Try.func5, Try.ntmps5
    go_wp2_with (first
      | (go_at_call 7; refine (awake19_any _).mono ?_; rintro e w1 ⟨rfl, hb⟩)
      | (go_at_call 20; (with_reducible refine (c1.out _).mono ?_); rintro e w2 ⟨rfl, hb'⟩; have hb := hb.trans (hb'.mono hb.size); clear hb'))
    go_ret
    exact ⟨rfl, hb⟩
theorem walk_top (w : World) : Calls Try.prog 5 #[.int .i64 9223372036854775807, .int .i64 1] w fun e w' => e = .returned (.bool true) ∧ Below w.heap.size w w' := by
  have c1 : Hid (∀ W : World, Calls Try.prog 20 #[.int .i64 9223372036854775807, .int .i64 1] W fun e w' => e = .returned (.int .i64 9223372036854775807) ∧ Below W.heap.size W w') := fun W => by
    have := afford_any 9223372036854775807 1 (by decide) W
    rwa [show affI 9223372036854775807 1 = 9223372036854775807 by unfold affI; decide] at this
  have c2 : Hid (∀ W : World, Calls Try.prog 14 #[.int .i64 1, .int .i64 9223372036854775807] W (Two W 9223372036854775807 0)) := fun W => by
    have := cost_any 1 9223372036854775807 (by decide) (by decide) W
    rwa [show cov (1 * 9223372036854775807) = 9223372036854775807 by unfold cov; decide, show cer (1 * 9223372036854775807) = 0 by unfold cer; decide] at this
  have c3 : Hid (∀ W : World, Calls Try.prog 14 #[.int .i64 1, .int .i64 (-9223372036854775808)] W (Two W 0 25)) := fun W => by
    have := cost_any 1 (-9223372036854775808) (by decide) (by decide) W
    rwa [show cov (1 * -9223372036854775808) = 0 by unfold cov; decide, show cer (1 * -9223372036854775808) = 25 by unfold cer; decide] at this
  have hw : wrap64 9223372036854775808 = -9223372036854775808 := by unfold wrap64; decide
  go_enter Try.func5, Try.ntmps5
  go_wp2_with (first
      | (go_at_call 7; refine (awake19_any _).mono ?_; rintro e w1 ⟨rfl, hb⟩)
      | (go_at_call 20; (with_reducible refine (c1.out _).mono ?_); rintro e w2 ⟨rfl, hb'⟩; have hb := hb.trans (hb'.mono hb.size); clear hb')
      | (go_at_call 14; (with_reducible refine (c2.out _).mono ?_); rintro e w2 ⟨rfl, hb'⟩; have hb := hb.trans (hb'.mono hb.size); clear hb')
      | (go_at_call 14; (with_reducible refine (c3.out _).mono ?_); rintro e w2 ⟨rfl, hb'⟩; have hb := hb.trans (hb'.mono hb.size); clear hb'))
  go_ret
  exact ⟨rfl, hb⟩
set_option maxHeartbeats 1000000 in
theorem walk_some (c : Int) (a1 : -9223372036854775808 ≤ c) (a2 : c ≤ 9223372036854775807) (p : Int) (b1 : -9223372036854775808 ≤ p) (b2 : p ≤ 9223372036854775807) (h1 : ¬ p < 1) (h2 : ¬ c < p) (hn : c / p < 9223372036854775807) (w : World) : Calls Try.prog 5 #[.int .i64 c, .int .i64 p] w fun e w' => e = .returned (.bool true) ∧ Below w.heap.size w w' := by
  obtain ⟨f1, f2, f3, f4, f5, f6, _⟩ := aff_facts ⟨a1, a2⟩ h1 h2
  have hp : rg p := ⟨b1, b2⟩
  have c1 := afford_any c p ⟨a1, a2⟩
  rw [show affI c p = c / p from if_neg (by omega)] at c1
  have c2 := cost_any p (c / p) hp f6
  rw [show cov (p * (c / p)) = p * (c / p) from if_pos ⟨f1, by omega⟩, show cer (p * (c / p)) = 0 by unfold cer; rw [if_pos f1, if_neg f2]] at c2
  have f7 : rg (c / p + 1) := by unfold rg at *; omega
  have hw : wrap64 (c / p + 1) = c / p + 1 := wrap_rg f7
  have c3 := cost_any p (c / p + 1) hp f7
  replace c1 := Lib.hid c1
  by_cases hr : rg (p * (c / p + 1))
  · rw [show cov (p * (c / p + 1)) = p * (c / p + 1) from if_pos ⟨hr, by unfold rg at *; omega⟩, show cer (p * (c / p + 1)) = 0 by unfold cer; rw [if_pos hr, if_neg (by unfold rg at *; omega)]] at c3
    replace c2 := Lib.hid c2
    replace c3 := Lib.hid c3
    generalize p * (c / p + 1) = y at *
    generalize p * (c / p) = z at *
    generalize c / p = q at *
    clear f1 f6 f7 hp hr a1 a2 b1 b2
    go_enter Try.func5, Try.ntmps5
    go_wp2_with (first
      | (go_at_call 7; refine (awake19_any _).mono ?_; rintro e w1 ⟨rfl, hb⟩)
      | (go_at_call 20; (with_reducible refine (c1.out _).mono ?_); rintro e w2 ⟨rfl, hb'⟩; have hb := hb.trans (hb'.mono hb.size); clear hb')
      | (go_at_call 14; (with_reducible refine (c2.out _).mono ?_); rintro e w2 ⟨rfl, hb'⟩; have hb := hb.trans (hb'.mono hb.size); clear hb')
      | (go_at_call 14; (with_reducible refine (c3.out _).mono ?_); rintro e w2 ⟨rfl, hb'⟩; have hb := hb.trans (hb'.mono hb.size); clear hb'))
    go_ret
    exact ⟨ret_bool (by first | rfl | simp; omega), hb⟩
  · rw [show cov (p * (c / p + 1)) = 0 from if_neg (fun h => hr h.1), show cer (p * (c / p + 1)) = 24 from if_neg hr] at c3
    replace c2 := Lib.hid c2
    replace c3 := Lib.hid c3
    generalize p * (c / p + 1) = y at *
    generalize p * (c / p) = z at *
    generalize c / p = q at *
    clear f1 f6 f7 hp hr a1 a2 b1 b2
    go_enter Try.func5, Try.ntmps5
    go_wp2_with (first
      | (go_at_call 7; refine (awake19_any _).mono ?_; rintro e w1 ⟨rfl, hb⟩)
      | (go_at_call 20; (with_reducible refine (c1.out _).mono ?_); rintro e w2 ⟨rfl, hb'⟩; have hb := hb.trans (hb'.mono hb.size); clear hb')
      | (go_at_call 14; (with_reducible refine (c2.out _).mono ?_); rintro e w2 ⟨rfl, hb'⟩; have hb := hb.trans (hb'.mono hb.size); clear hb')
      | (go_at_call 14; (with_reducible refine (c3.out _).mono ?_); rintro e w2 ⟨rfl, hb'⟩; have hb := hb.trans (hb'.mono hb.size); clear hb'))
    go_ret
    exact ⟨ret_bool (by first | rfl | simp; omega), hb⟩
theorem walk (c : Int) (a1 : -9223372036854775808 ≤ c) (a2 : c ≤ 9223372036854775807) (p : Int) (b1 : -9223372036854775808 ≤ p) (b2 : p ≤ 9223372036854775807) (w : World) : Calls Try.prog 5 #[.int .i64 c, .int .i64 p] w fun e w' => e = .returned (.bool true) ∧ Below w.heap.size w w' := by
  by_cases h : p < 1 ∨ c < p
  · exact walk_none c a1 a2 p b1 b2 h w
  · by_cases hn : c / p < 9223372036854775807
    · exact walk_some c a1 a2 p b1 b2 (by omega) (by omega) hn w
    · obtain ⟨f1, f2, f3, f4, f5, f6, f7⟩ := aff_facts (c := c) (p := p) ⟨a1, a2⟩ (by omega) (by omega)
      obtain rfl : p = 1 := f7 (by unfold rg at f6; omega)
      rw [Int.ediv_one] at hn
      obtain rfl : c = 9223372036854775807 := by omega
      exact walk_top w

set_option maxRecDepth 100000 in
theorem lifted (os : Os) (started : os.Started) (H : Type) (enc : TypeId × Value → H) :
    ReturnsInHanded {} Try.checked os 5 .any (Rows.amountAffordsSpec.pre6 enc Try.prog Try.f5 Rows.amountAffordsRow.domain false) (Rows.amountAffordsSpec.post enc Try.prog Try.f5 false true false false) := by
  refine returnsInHanded_of_change (C := Try.checked) own started (by kernel_rfl) Try.func5
    (ChangeSpec.witness6 (enc := enc) (C := Try.checked) false ⟨#[], #[.int .i64 0, .int .i64 0], []⟩ 8 (by kernel_rfl) (by kernel_rfl) (by kernel_rfl) (by kernel_rfl)) ?_
  intro W base args ds gs before hval0 hW hcnd _
  have hval : ∀ (j : Nat) t v, Try.f5.params[j]? = some t → args[j]? = some v → Value.okWide Try.prog W .any base t v := hval0
  have hW' := hW
  obtain ⟨p, q, hA0, hV, rfl, hfz, hnd⟩ := hW
  have hA : DataW.TrodAll enc Try.prog W 0 (fun _ => true) true Try.f5.params.toList args.toList ds p := hA0
  rw [Try.params5] at hA hval
  obtain ⟨v0, vs0, d0, ds0, p0, q0, hargs, rfl, rfl, h0, r0⟩ := trodAll_cons hA
  obtain ⟨v1, vs1, d1, ds1, p1, q1, rfl, rfl, rfl, h1, r1⟩ := trodAll_cons r0
  obtain ⟨rfl, rfl, rfl⟩ := trodAll_nil r1
  obtain rfl : args = #[v0, v1] := by cases args; simp_all
  obtain ⟨a0, rfl, rfl, rfl, w0⟩ := open_int Try.underlying2 (hval 0 2 v0 rfl rfl) h0
  obtain ⟨l0, m0⟩ := i64_bd w0
  obtain ⟨a1, rfl, rfl, rfl, w1⟩ := open_int Try.underlying2 (hval 1 2 v1 rfl rfl) h1
  obtain ⟨l1, m1⟩ := i64_bd w1
  refine (walk a0 l0 m0 a1 l1 m1 W).mono fun e W' ⟨he, hb⟩ => ?_
  exact ⟨_, he, post_law hW' rfl rfl rfl (by rw [Try.params5]; decide +kernel) hb⟩

theorem proved : Rows.AmountAffordsSaid :=
  OpenClaim.holds_of_wide 5 Try.f5 rfl rfl rfl rfl rfl rfl rfl ⟨rfl, rfl, rfl, rfl, rfl⟩ rfl rfl rfl rfl rfl (by kernel_rfl) Try.func5 (by kernel_rfl)
    (of_decide_eq_true (by kernel_rfl)) (by unfold Func.isWrapper; first | (rw [if_pos (by decide +kernel)]; kernel_rfl) | (rw [if_neg (by decide +kernel)]; exact ⟨rfl, rfl⟩))
    (fun os started H enc _ => lifted os started H enc)
#print axioms proved
end Go.Proofs.Ytidbefagbjlomaa.amountAffords
