/-
  The law SkipNil returns true. No condition.
-/
import Derived.Test.YtfbfclejegajpaaSkN
import Derived.Test.YtfbfclejegajpaaLaw
namespace Go.Proofs.Ytfbfclejegajpaa.skipNil
open Go.ChangeShapes Go.WideShapes Go.ChangeAt Go.RowKit
open Go.Proofs.Ytfbfclejegajpaa
open Go.Proofs.Ytfbfclejegajpaa.Sk

set_option maxRecDepth 100000 in
set_option maxHeartbeats 1000000 in
theorem walk (w : World) : Calls Try.prog 6 #[] w fun e w' => e = .returned (.bool true) ∧ Below w.heap.size w w' := by
  go_enter Try.func6, Try.ntmps6
  go_wp2_with (first
    | (go_at_call 7; (with_reducible refine (awake_any _).mono ?_); rintro e w1 ⟨rfl, b1⟩)
    | (go_at_call 10; (with_reducible refine (put_nil _ _ _ _).mono ?_); rintro e w' ⟨rfl, rfl⟩)
    | (go_at_call 12; (with_reducible refine (get_nil _ _).mono ?_); rintro e w' ⟨rfl, rfl⟩)
    | (go_at_call 15; (with_reducible refine (len_nil _).mono ?_); rintro e w' ⟨rfl, rfl⟩)
    | (go_at_call 16; (with_reducible refine (bytes_nil _).mono ?_); rintro e w' ⟨rfl, rfl⟩)
    | (go_at_call 14; (with_reducible refine (steps_nil _).mono ?_); rintro e w' ⟨rfl, rfl⟩)
    | (go_at_call 18; (with_reducible refine (height_nil _ _).mono ?_); rintro e w' ⟨rfl, rfl⟩)
    | (go_at_call 23; (with_reducible refine (from_nil _ ⟨#[]⟩).mono ?_); rintro e w2 ⟨rfl, hw2⟩; have H2 := Lib.hid hw2; clear hw2)
    | (go_at_call 22; (with_reducible refine (rowNone _ (.inl rfl) ⟨#[]⟩ H2.out (mi := 1) (m := 1) rfl (by decide)).mono ?_); rintro e w3 ⟨⟨a3, c3, rfl⟩, b3⟩)
    | (go_at_call 24; (with_reducible refine (down_nil _ ⟨#[]⟩).mono ?_); rintro e w4 ⟨rfl, hw4⟩; have H4 := Lib.hid hw4; clear hw4)
    | (go_at_call 22; (with_reducible refine (rowNone _ (.inr rfl) ⟨#[]⟩ H4.out (mi := 1) (m := 1) rfl (by decide)).mono ?_); rintro e w5 ⟨⟨a5, c5, rfl⟩, b5⟩))
  go_ret
  have h2 : Below w1.heap.size w1 w2 := by rw [H2.out]; exact ((Below.refl _ _).alloc (Nat.le_refl _) _).alloc (by simp) _
  have h4 : Below w3.heap.size w3 w4 := by rw [H4.out]; exact ((Below.refl _ _).alloc (Nat.le_refl _) _).alloc (by simp) _
  have t2 := b1.trans (h2.mono b1.size)
  have t3 := t2.trans (b3.mono t2.size)
  have t4 := t3.trans (h4.mono t3.size)
  exact ⟨rfl, t4.trans (b5.mono t4.size)⟩

set_option maxRecDepth 100000 in
theorem lifted (os : Os) (started : os.Started) (H : Type) (enc : TypeId × Value → H) :
    ReturnsInHanded {} Try.checked os 6 .any (Rows.skipNilSpec.pre6 enc Try.prog Try.f6 Rows.skipNilRow.domain false) (Rows.skipNilSpec.post enc Try.prog Try.f6 false true false false) := by
  refine returnsInHanded_of_change (C := Try.checked) own started (by kernel_rfl) Try.func6
    (ChangeSpec.witness6 (enc := enc) (C := Try.checked) false ⟨#[], #[], []⟩ 8 (by kernel_rfl) (by kernel_rfl) (by kernel_rfl) (by kernel_rfl)) ?_
  intro W base args ds gs before hval0 hW hcnd _
  have hW' := hW
  obtain ⟨p, q, hA0, hV, rfl, hfz, hnd⟩ := hW
  have hA : DataW.TrodAll enc Try.prog W 0 (fun _ => true) true Try.f6.params.toList args.toList ds p := hA0
  rw [Try.params6] at hA
  obtain ⟨hargs, rfl, rfl⟩ := trodAll_nil hA
  obtain rfl : args = #[] := by cases args; simp_all
  refine (walk W).mono fun e W' ⟨he, hb⟩ => ?_
  exact ⟨_, he, post_law hW' rfl rfl rfl (by rw [Try.params6]; decide +kernel) hb⟩

theorem proved : Rows.SkipNilSaid :=
  OpenClaim.holds_of_wide 6 Try.f6 rfl rfl rfl rfl rfl rfl rfl ⟨rfl, rfl, rfl, rfl, rfl⟩ rfl rfl rfl rfl rfl (by kernel_rfl) Try.func6 (by kernel_rfl)
    (of_decide_eq_true (by kernel_rfl)) (by unfold Func.isWrapper; first | (rw [if_pos (by decide +kernel)]; kernel_rfl) | (rw [if_neg (by decide +kernel)]; exact ⟨rfl, rfl⟩))
    (fun os started H enc _ => lifted os started H enc)
#print axioms proved
end Go.Proofs.Ytfbfclejegajpaa.skipNil
