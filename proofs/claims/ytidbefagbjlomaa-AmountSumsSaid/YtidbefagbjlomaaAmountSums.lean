/-
  The law AmountSums returns true at every input. No condition.
-/
import Derived.Test.YtidbefagbjlomaaAmD
namespace Go.Proofs.Ytidbefagbjlomaa.amountSums
open Go.ChangeShapes Go.WideShapes Go.ChangeAt Go.RowKit
open Go.Proofs.Ytidbefagbjlomaa
open Am

theorem walk (A : Option Addr) (c : Nat) (l : List Int) (w : World) (RA : NRow w A l) (hl : l.length ≤ 9223372036854775807) (hall : ∀ p ∈ l, rg p) :
    Calls Try.prog 4 #[.slice A l.length c] w fun e w' => e = .returned (.bool true) ∧ Below w.heap.size w w' := by
  by_cases h : l.length ≤ 100
  · have HR := Lib.hid RA
    have c1 : Hid (∀ W : World, NRow W A l → Calls Try.prog 18 #[.slice A l.length c] W (Two W (sumGo 0 l).1 (sumGo 0 l).2)) := fun W R => sum_any A c l h hall W R
    have c2 : Hid (∀ W : World, NRow W A l → Calls Try.prog 19 #[.slice A l.length c] W (Two W (sumGo 0 l).1 (sumGo 0 l).2)) := fun W R => rsum_any A c l h hall W R
    clear hall RA
    generalize (sumGo 0 l).1 = x at *
    generalize (sumGo 0 l).2 = y at *
    go_enter Try.func4, Try.ntmps4
    go_wp2_with (first
      | (go_at_call 7; refine (awake19_any _).mono ?_; rintro e w1 ⟨rfl, hb⟩; have R1 := Lib.hid (HR.out.below hb))
      | (go_at_call 18; (with_reducible refine (c1.out _ R1.out).mono ?_); rintro e w2 ⟨rfl, hb'⟩; have R2 := Lib.hid (R1.out.below hb'); have hb := hb.trans (hb'.mono hb.size); clear hb')
      | (go_at_call 19; (with_reducible refine (c2.out _ R2.out).mono ?_); rintro e w2 ⟨rfl, hb'⟩; have hb := hb.trans (hb'.mono hb.size); clear hb'))
    go_ret
    exact ⟨ret_bool (by first | rfl | simp), hb⟩
  · have hn : ¬ ((l.length : Int) ≤ 100) := by omega
    go_enter Try.func4, Try.ntmps4
    go_wp2_with (go_at_call 7; refine (awake19_any _).mono ?_; rintro e w1 ⟨rfl, hb⟩)
    go_ret
    exact ⟨rfl, hb⟩

set_option maxRecDepth 100000 in
theorem lifted (os : Os) (started : os.Started) (H : Type) (enc : TypeId × Value → H) :
    ReturnsInHanded {} Try.checked os 4 .any (Rows.amountSumsSpec.pre6 enc Try.prog Try.f4 Rows.amountSumsRow.domain false) (Rows.amountSumsSpec.post enc Try.prog Try.f4 false true false false) := by
  refine returnsInHanded_of_change (C := Try.checked) own started (by kernel_rfl) Try.func4
    (ChangeSpec.witness6 (enc := enc) (C := Try.checked) false ⟨#[], #[.slice none 0 0], []⟩ 8 (by kernel_rfl) (by kernel_rfl) (by kernel_rfl) (by kernel_rfl)) ?_
  intro W base args ds gs before hval0 hW hcnd _
  have hval : ∀ (j : Nat) t v, Try.f4.params[j]? = some t → args[j]? = some v → Value.okWide Try.prog W .any base t v := hval0
  have hW' := hW
  obtain ⟨p, q, hA0, hV, rfl, hfz, hnd⟩ := hW
  have hA : DataW.TrodAll enc Try.prog W 0 (fun _ => true) true Try.f4.params.toList args.toList ds p := hA0
  rw [Try.params4] at hA hval
  obtain ⟨v0, vs0, d0, ds0, p0, q0, hargs, rfl, rfl, h0, r0⟩ := trodAll_cons hA
  obtain ⟨rfl, rfl, rfl⟩ := trodAll_nil r0
  obtain rfl : args = #[v0] := by cases args; simp_all
  obtain ⟨ao, len, cap, rfl⟩ := okWide_slice Try.underlying31 (hval 0 31 v0 rfl rfl)
  have main : Calls Try.prog 4 #[.slice ao len cap] W fun e w' => e = .returned (.bool true) ∧ Below W.heap.size W w' := by
    obtain ⟨fuel, hf⟩ := h0
    obtain ⟨l, rfl, RA, hl, hall⟩ := open_nums (by exact hf)
    exact walk ao cap l W RA hl hall
  refine (main).mono fun e W' ⟨he, hb⟩ => ?_
  exact ⟨_, he, post_law hW' rfl rfl rfl (by rw [Try.params4]; decide +kernel) hb⟩

theorem proved : Rows.AmountSumsSaid :=
  OpenClaim.holds_of_wide 4 Try.f4 rfl rfl rfl rfl rfl rfl rfl ⟨rfl, rfl, rfl, rfl, rfl⟩ rfl rfl rfl rfl rfl (by kernel_rfl) Try.func4 (by kernel_rfl)
    (of_decide_eq_true (by kernel_rfl)) (by unfold Func.isWrapper; first | (rw [if_pos (by decide +kernel)]; kernel_rfl) | (rw [if_neg (by decide +kernel)]; exact ⟨rfl, rfl⟩))
    (fun os started H enc _ => lifted os started H enc)
#print axioms proved
end Go.Proofs.Ytidbefagbjlomaa.amountSums
