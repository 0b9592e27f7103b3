/-
  The law VarintWrites returns true at every input. No condition.
-/
import Derived.Test.YtgpifihghklgfaaViAwake
namespace Go.Proofs.Ytgpifihghklgfaa.varintWrites
open Go.ChangeShapes Go.WideShapes Go.ChangeAt Go.RowKit
open Go.ChangeMaps (open_string)
open Go.Proofs.Ytgpifihghklgfaa
open Vi

theorem walk (n : Nat) (hn : n < 18446744073709551616) (s : ByteArray) (hM : s.size ≤ maxLen) (w : World) :
    Calls Try.prog 3 #[.int .u64 n, .string s] w fun e w' => e = .returned (.bool true) ∧ Below w.heap.size w w' := by
  unfold maxLen at hM
  have hbl := bs_list
  have hbz := bs_size
  by_cases hs : s.size ≤ 3000
  · go_enter Try.func3, Try.ntmps3
    go_wp2_with (first
      | (go_at_call 8; refine (awake_any _).mono ?_; rintro e w1 ⟨rfl, hb⟩)
      | (go_at_call 9; refine (num_any n hn _).mono ?_; rintro e w2 ⟨rfl, hb'⟩; have hb := hb.trans (hb'.mono hb.size); clear hb')
      | (go_at_call 10; refine (refNum_any n hn _).mono ?_; rintro e w2 ⟨rfl, hb'⟩; have hb := hb.trans (hb'.mono hb.size); clear hb')
      | (go_at_call 11; refine (signed_any _ (by unfold wrap64; omega) (by unfold wrap64; omega) _).mono ?_; rintro e w2 ⟨rfl, hb'⟩; have hb := hb.trans (hb'.mono hb.size); clear hb')
      | (go_at_call 12; refine (refSigned_any _ (by unfold wrap64; omega) (by unfold wrap64; omega) _).mono ?_; rintro e w2 ⟨rfl, hb'⟩; have hb := hb.trans (hb'.mono hb.size); clear hb')
      | (go_at_call 13; refine (text_any s (by omega) _).mono ?_; rintro e w2 ⟨rfl, hb'⟩; have hb := hb.trans (hb'.mono hb.size); clear hb')
      | (go_at_call 14; refine (refText_any s (by omega) _).mono ?_; rintro e w2 ⟨rfl, hb'⟩; have hb := hb.trans (hb'.mono hb.size); clear hb')
      | (go_at_call 15; refine (fixed_at (n := n % 4294967296) (by omega) (by omega) _).mono ?_; rintro e w2 ⟨rfl, hb'⟩; have hb := hb.trans (hb'.mono hb.size); clear hb')
      | (go_at_call 16; refine (refLittle_at (n := n % 4294967296) (k := 4) (by omega) (by omega) (by omega) (by omega) _).mono ?_; rintro e w2 ⟨rfl, hb'⟩; have hb := hb.trans (hb'.mono hb.size); clear hb')
      | (go_at_call 17; refine (wide_any n hn _).mono ?_; rintro e w2 ⟨rfl, hb'⟩; have hb := hb.trans (hb'.mono hb.size); clear hb')
      | (go_at_call 16; refine (refLittle_at (n := n) (k := 8) (by omega) (by omega) (by omega) (by omega) _).mono ?_; rintro e w2 ⟨rfl, hb'⟩; have hb := hb.trans (hb'.mono hb.size); clear hb')
      | (go_at_call 18; refine (len_any n hn _).mono ?_; rintro e w' ⟨rfl, rfl⟩))
    go_ret
    exact ⟨rfl, hb⟩
  · go_enter Try.func3, Try.ntmps3
    go_wp2_with (go_at_call 8; refine (awake_any _).mono ?_; rintro e w1 ⟨rfl, hb⟩)
    go_ret
    exact ⟨rfl, hb⟩

set_option maxRecDepth 100000 in
theorem lifted (os : Os) (started : os.Started) (H : Type) (enc : TypeId × Value → H) :
    ReturnsInHanded {} Try.checked os 3 .any (Rows.varintWritesSpec.pre6 enc Try.prog Try.f3 Rows.varintWritesRow.domain false) (Rows.varintWritesSpec.post enc Try.prog Try.f3 false true false false) := by
  refine returnsInHanded_of_change (C := Try.checked) own started (by kernel_rfl) Try.func3
    (ChangeSpec.witness6 (enc := enc) (C := Try.checked) false ⟨#[], #[.int .u64 0, .string .empty], []⟩ 8 (by kernel_rfl) (by kernel_rfl) (by kernel_rfl) (by kernel_rfl)) ?_
  intro W base args ds gs before hval0 hW hcnd _
  have hval : ∀ (j : Nat) t v, Try.f3.params[j]? = some t → args[j]? = some v → Value.okWide Try.prog W .any base t v := hval0
  have hW' := hW
  obtain ⟨p, q, hA0, hV, rfl, hfz, hnd⟩ := hW
  have hA : DataW.TrodAll enc Try.prog W 0 (fun _ => true) true Try.f3.params.toList args.toList ds p := hA0
  rw [Try.params3] at hA hval
  obtain ⟨v0, vs0, d0, ds0, p0, q0, hargs, rfl, rfl, h0, r0⟩ := trodAll_cons hA
  obtain ⟨v1, vs1, d1, ds1, p1, q1, rfl, rfl, rfl, h1, r1⟩ := trodAll_cons r0
  obtain ⟨rfl, rfl, rfl⟩ := trodAll_nil r1
  obtain rfl : args = #[v0, v1] := by cases args; simp_all
  obtain ⟨a0, rfl, rfl, rfl, w0⟩ := open_int Try.underlying22 (hval 0 22 v0 rfl rfl) h0
  obtain ⟨n0, rfl, m0⟩ := u64_nat w0
  obtain ⟨s1, rfl, rfl, rfl, m1⟩ := open_string Try.underlying9 (hval 1 9 v1 rfl rfl) h1
  refine (walk n0 m0 s1 m1 W).mono fun e W' ⟨he, hb⟩ => ?_
  exact ⟨_, he, post_law hW' rfl rfl rfl (by rw [Try.params3]; decide +kernel) hb⟩

theorem proved : Rows.VarintWritesSaid :=
  OpenClaim.holds_of_wide 3 Try.f3 rfl rfl rfl rfl rfl rfl rfl ⟨rfl, rfl, rfl, rfl, rfl⟩ rfl rfl rfl rfl rfl (by kernel_rfl) Try.func3 (by kernel_rfl)
    (of_decide_eq_true (by kernel_rfl)) (by unfold Func.isWrapper; first | (rw [if_pos (by decide +kernel)]; kernel_rfl) | (rw [if_neg (by decide +kernel)]; exact ⟨rfl, rfl⟩))
    (fun os started H enc _ => lifted os started H enc)
#print axioms proved
end Go.Proofs.Ytgpifihghklgfaa.varintWrites
