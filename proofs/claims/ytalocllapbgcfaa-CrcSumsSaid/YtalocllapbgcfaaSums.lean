/-
  The law CrcSums returns true at every input. No condition.
-/
import Derived.Test.YtalocllapbgcfaaLaw
import Derived.Test.YtalocllapbgcfaaSumC
namespace Go.Proofs.Ytalocllapbgcfaa.crcSums
open Go.ChangeShapes Go.WideShapes Go.ChangeAt Go.RowKit
open Go.ChangeMaps (open_string)
open Crc
open Go.Proofs.Ytalocllapbgcfaa
attribute [local irreducible] Crc.byt Crc.upd Crc.run Crc.add Crc.ofL

theorem run_index_tab {cs : Array Value} (hT : IsTab 256 cs) {k : Nat} (hk : k < 256) (w : World) :
    (Instr.index 24 (.agg cs) (.int .i64 (k : Int))).run Try.prog w = .ok (.int .u32 (byt k)) w := by
  have hc := isTab_at hT hk
  have h1 : (0 : Int) ≤ k ∧ (k : Int) < 256 := by omega
  simp [Instr.index, asIntOf, run_underlying Try.underlying24, h1, Try.sizeOf22, Sem.run_bind]
  simp [hk, part, Sem.run_bind, Try.isAgg22, hc]
set_option maxRecDepth 100000 in
theorem walk (n : Nat) (hn : Hid (n < 4294967296)) (s : ByteArray) (hM : Hid (s.size ≤ maxLen)) (w : World) :
    Calls Try.prog 3 #[.int .u32 n, .string s] w fun e w' => e = .returned (.bool true) ∧ Below w.heap.size w w' := by
  have hx : s.size ≤ 9223372036854775807 := hM.out
  go_enter Try.func3, Try.ntmps3
  go_wp2_with (first
    | (go_at_call 11; with_reducible refine (awake_any _).mono ?_; rintro e w1 ⟨rfl, hb⟩)
    | (go_at_call 12; with_reducible refine (table_any _).mono ?_; rintro e w2 ⟨cs, hT, rfl, hb'⟩; have hb := hb.trans (hb'.mono hb.size)))
  · go_ret
    exact ⟨rfl, hb⟩
  · go_loop [13] (fun i => ∃ k : Nat, k ≤ 256 ∧ i = .int .i64 k) (fun i => 256 - (intOf i).toNat)
    case atStart => exact ⟨0, by omega, rfl⟩
    case round =>
      obtain ⟨k, hk, rfl⟩ := hrel
      by_cases h8 : k < 256
      · have hc := run_index_tab hT h8 w2
        have HT := Lib.hid hT; clear hT
        go_wp2_with (go_at_call 13; go_loud (with_reducible refine (byte_at (b := k) (by omega) (by omega) _).mono ?_); rintro e w3 ⟨rfl, rfl⟩)
        go_round
        case rel => exact ⟨k + 1, by omega, by go_num⟩
        case measure => simp [intOf]; omega
      · have HT := Lib.hid hT; clear hT
        go_wp2_with (first
          | (go_at_call 14; with_reducible refine (add_any n hn.out s hM.out _).mono ?_; rintro e w3 ⟨rfl, hb'⟩; have hb := hb.trans (hb'.mono hb.size))
          | (go_at_call 15; with_reducible refine (refAdd_any n hn.out s hM.out _).mono ?_; rintro e w3 ⟨rfl, rfl⟩)
          | (go_at_call 16; with_reducible refine (of_any s hM.out _).mono ?_; rintro e w3 ⟨rfl, hb'⟩; have hb := hb.trans (hb'.mono hb.size))
          | (go_at_call 17; with_reducible refine (refOf_any s hM.out _).mono ?_; rintro e w3 ⟨rfl, rfl⟩))
        go_ret
        exact ⟨rfl, hb⟩
set_option maxRecDepth 100000 in
theorem lifted (os : Os) (started : os.Started) (H : Type) (enc : TypeId × Value → H) :
    ReturnsInHanded {} Try.checked os 3 .any (Rows.crcSumsSpec.pre6 enc Try.prog Try.f3 Rows.crcSumsRow.domain false) (Rows.crcSumsSpec.post enc Try.prog Try.f3 false true false false) := by
  refine returnsInHanded_of_change (C := Try.checked) own started (by kernel_rfl) Try.func3
    (ChangeSpec.witness6 (enc := enc) (C := Try.checked) false ⟨#[], #[.int .u32 0, .string .empty], []⟩ 8 (by kernel_rfl) (by kernel_rfl) (by kernel_rfl) (by kernel_rfl)) ?_
  intro W base args ds gs before hval0 hW hcnd _
  have hval : ∀ (j : Nat) t v, Try.f3.params[j]? = some t → args[j]? = some v → Value.okWide Try.prog W .any base t v := hval0
  have hW' := hW
  obtain ⟨p, q, hA0, hV, rfl, hfz, hnd⟩ := hW
  have hA : DataW.TrodAll enc Try.prog W 0 (fun _ => true) true Try.f3.params.toList args.toList ds p := hA0
  rw [Try.params3] at hA hval
  obtain ⟨v0, vs0, d0, ds0, p0, q0, hargs, rfl, rfl, h0, r0⟩ := trodAll_cons hA
  obtain ⟨v1, vs1, d1, ds1, p1, q1, rfl, rfl, rfl, h1, r1⟩ := trodAll_cons r0
  obtain ⟨rfl, rfl, rfl⟩ := trodAll_nil r1
  obtain rfl : args = #[v0, v1] := by cases args; simp_all
  obtain ⟨a0, rfl, rfl, rfl, w0⟩ := open_int Try.underlying22 (hval 0 22 v0 rfl rfl) h0
  obtain ⟨s, rfl, rfl, rfl, hmax⟩ := open_string Try.underlying9 (hval 1 9 v1 rfl rfl) h1
  obtain ⟨n, rfl, hn⟩ := u32_nat w0
  refine (walk n hn s hmax W).mono fun e W' ⟨he, hb⟩ => ?_
  exact ⟨_, he, post_law hW' rfl rfl rfl (by rw [Try.params3]; decide +kernel) hb⟩

theorem proved : Rows.CrcSumsSaid :=
  OpenClaim.holds_of_wide 3 Try.f3 rfl rfl rfl rfl rfl rfl rfl ⟨rfl, rfl, rfl, rfl, rfl⟩ rfl rfl rfl rfl rfl (by kernel_rfl) Try.func3 (by kernel_rfl)
    (of_decide_eq_true (by kernel_rfl)) (by unfold Func.isWrapper; first | (rw [if_pos (by decide +kernel)]; kernel_rfl) | (rw [if_neg (by decide +kernel)]; exact ⟨rfl, rfl⟩))
    (fun os started H enc _ => lifted os started H enc)
#print axioms proved
end Go.Proofs.Ytalocllapbgcfaa.crcSums
