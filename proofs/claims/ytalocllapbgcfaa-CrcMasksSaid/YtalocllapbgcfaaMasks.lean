/-
  The law CrcMasks returns true at every input. No condition.
-/
import Derived.Test.YtalocllapbgcfaaLaw
import Derived.Test.YtalocllapbgcfaaSumC
namespace Go.Proofs.Ytalocllapbgcfaa.crcMasks
open Go.ChangeShapes Go.WideShapes Go.ChangeAt Go.RowKit
open Go.ChangeMaps (open_string)
open Crc
open Go.Proofs.Ytalocllapbgcfaa

theorem walk_yes (n m : Nat) (hn : Hid (n < 4294967296)) (hm : Hid (m < 4294967296)) (s : ByteArray) (hM : Hid (s.size ≤ maxLen)) (HE : Hid (mask (ofL s.data.toList) = n)) (w : World) :
    Calls Try.prog 4 #[.int .u32 n, .int .u32 m, .string s] w fun e w' => e = .returned (.bool true) ∧ Below w.heap.size w w' := by
  have hx : s.size ≤ 9223372036854775807 := hM.out
  have um := unmask_mask hn.out
  have mu := mask_unmask hm.out
  go_enter Try.func4, Try.ntmps4
  go_wp2_with (first
    | (go_at_call 11; with_reducible refine (awake_any _).mono ?_; rintro e w1 ⟨rfl, hb⟩)
    | (go_at_call 17; with_reducible refine (refOf_any s hM.out _).mono ?_; rintro e w2 ⟨rfl, rfl⟩)
    | (go_at_call 18; with_reducible refine (refMask_any _ (by first | exact hn.out | exact ofL_lt _) _).mono ?_; rintro e w2 ⟨rfl, rfl⟩)
    | (go_at_call 19; with_reducible refine (mask_any _ (by first | exact hn.out | exact unmask_lt _) _).mono ?_; rintro e w2 ⟨rfl, rfl⟩)
    | (go_at_call 20; with_reducible refine (unmask_any _ (by first | exact hm.out | exact mask_lt _) _).mono ?_; rintro e w2 ⟨rfl, rfl⟩)
    | (go_at_call 21; with_reducible refine (whole_yes s hM.out _ (by first | rfl | exact HE.out) _).mono ?_; rintro e w2 ⟨rfl, hb'⟩; have hb := hb.trans (hb'.mono hb.size)))
  · go_ret
    exact ⟨rfl, hb⟩
  · go_ret
    exact ⟨ret_bool (by rw [HE.out]; exact beq_self_eq_true _), hb⟩
theorem walk_no (n m : Nat) (hn : Hid (n < 4294967296)) (hm : Hid (m < 4294967296)) (s : ByteArray) (hM : Hid (s.size ≤ maxLen)) (HE : Hid (¬ mask (ofL s.data.toList) = n)) (w : World) :
    Calls Try.prog 4 #[.int .u32 n, .int .u32 m, .string s] w fun e w' => e = .returned (.bool true) ∧ Below w.heap.size w w' := by
  have hx : s.size ≤ 9223372036854775807 := hM.out
  have um := unmask_mask hn.out
  have mu := mask_unmask hm.out
  go_enter Try.func4, Try.ntmps4
  go_wp2_with (first
    | (go_at_call 11; with_reducible refine (awake_any _).mono ?_; rintro e w1 ⟨rfl, hb⟩)
    | (go_at_call 17; with_reducible refine (refOf_any s hM.out _).mono ?_; rintro e w2 ⟨rfl, rfl⟩)
    | (go_at_call 18; with_reducible refine (refMask_any _ (by first | exact hn.out | exact ofL_lt _) _).mono ?_; rintro e w2 ⟨rfl, rfl⟩)
    | (go_at_call 19; with_reducible refine (mask_any _ (by first | exact hn.out | exact unmask_lt _) _).mono ?_; rintro e w2 ⟨rfl, rfl⟩)
    | (go_at_call 20; with_reducible refine (unmask_any _ (by first | exact hm.out | exact mask_lt _) _).mono ?_; rintro e w2 ⟨rfl, rfl⟩)
    | (go_at_call 21; with_reducible refine (whole_yes s hM.out _ rfl _).mono ?_; rintro e w2 ⟨rfl, hb'⟩; have hb := hb.trans (hb'.mono hb.size))
    | (go_at_call 21; with_reducible refine (whole_no s hM.out _ HE.out _).mono ?_; rintro e w2 ⟨rfl, hb'⟩; have hb := hb.trans (hb'.mono hb.size)))
  · go_ret
    exact ⟨rfl, hb⟩
  · go_ret
    refine ⟨ret_bool ?_, hb⟩
    have hne := HE.out
    simp
    omega
theorem walk (n m : Nat) (hn : n < 4294967296) (hm : m < 4294967296) (s : ByteArray) (hM : s.size ≤ maxLen) (w : World) :
    Calls Try.prog 4 #[.int .u32 n, .int .u32 m, .string s] w fun e w' => e = .returned (.bool true) ∧ Below w.heap.size w w' := by
  by_cases h : mask (ofL s.data.toList) = n
  · exact walk_yes n m hn hm s hM h w
  · exact walk_no n m hn hm s hM h w

set_option maxRecDepth 100000 in
theorem lifted (os : Os) (started : os.Started) (H : Type) (enc : TypeId × Value → H) :
    ReturnsInHanded {} Try.checked os 4 .any (Rows.crcMasksSpec.pre6 enc Try.prog Try.f4 Rows.crcMasksRow.domain false) (Rows.crcMasksSpec.post enc Try.prog Try.f4 false true false false) := by
  refine returnsInHanded_of_change (C := Try.checked) own started (by kernel_rfl) Try.func4
    (ChangeSpec.witness6 (enc := enc) (C := Try.checked) false ⟨#[], #[.int .u32 0, .int .u32 0, .string .empty], []⟩ 8 (by kernel_rfl) (by kernel_rfl) (by kernel_rfl) (by kernel_rfl)) ?_
  intro W base args ds gs before hval0 hW hcnd _
  have hval : ∀ (j : Nat) t v, Try.f4.params[j]? = some t → args[j]? = some v → Value.okWide Try.prog W .any base t v := hval0
  have hW' := hW
  obtain ⟨p, q, hA0, hV, rfl, hfz, hnd⟩ := hW
  have hA : DataW.TrodAll enc Try.prog W 0 (fun _ => true) true Try.f4.params.toList args.toList ds p := hA0
  rw [Try.params4] at hA hval
  obtain ⟨v0, vs0, d0, ds0, p0, q0, hargs, rfl, rfl, h0, r0⟩ := trodAll_cons hA
  obtain ⟨v1, vs1, d1, ds1, p1, q1, rfl, rfl, rfl, h1, r1⟩ := trodAll_cons r0
  obtain ⟨v2, vs2, d2, ds2, p2, q2, rfl, rfl, rfl, h2, r2⟩ := trodAll_cons r1
  obtain ⟨rfl, rfl, rfl⟩ := trodAll_nil r2
  obtain rfl : args = #[v0, v1, v2] := by cases args; simp_all
  obtain ⟨a0, rfl, rfl, rfl, w0⟩ := open_int Try.underlying22 (hval 0 22 v0 rfl rfl) h0
  obtain ⟨a1, rfl, rfl, rfl, w1⟩ := open_int Try.underlying22 (hval 1 22 v1 rfl rfl) h1
  obtain ⟨s, rfl, rfl, rfl, hmax⟩ := open_string Try.underlying9 (hval 2 9 v2 rfl rfl) h2
  obtain ⟨n, rfl, hn⟩ := u32_nat w0
  obtain ⟨m, rfl, hm⟩ := u32_nat w1
  refine (walk n m hn hm s hmax W).mono fun e W' ⟨he, hb⟩ => ?_
  exact ⟨_, he, post_law hW' rfl rfl rfl (by rw [Try.params4]; decide +kernel) hb⟩

theorem proved : Rows.CrcMasksSaid :=
  OpenClaim.holds_of_wide 4 Try.f4 rfl rfl rfl rfl rfl rfl rfl ⟨rfl, rfl, rfl, rfl, rfl⟩ rfl rfl rfl rfl rfl (by kernel_rfl) Try.func4 (by kernel_rfl)
    (of_decide_eq_true (by kernel_rfl)) (by unfold Func.isWrapper; first | (rw [if_pos (by decide +kernel)]; kernel_rfl) | (rw [if_neg (by decide +kernel)]; exact ⟨rfl, rfl⟩))
    (fun os started H enc _ => lifted os started H enc)
#print axioms proved
end Go.Proofs.Ytalocllapbgcfaa.crcMasks
