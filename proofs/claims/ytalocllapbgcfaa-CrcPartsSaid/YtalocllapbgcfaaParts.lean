/-
  The law CrcParts returns true at every input. No condition.
-/
import Derived.Test.YtalocllapbgcfaaLaw
import Derived.Test.YtalocllapbgcfaaSumC
import Derived.Deep.RegionHeld3
import Derived.Deep.CutBlock
namespace Go.Proofs.Ytalocllapbgcfaa.crcParts
open Go.ChangeShapes Go.WideShapes Go.ChangeAt Go.RowKit
open Go.ChangeMaps (open_string)
open Crc
open Go.Proofs.Ytalocllapbgcfaa
attribute [local irreducible] Crc.byt Crc.upd Crc.run Crc.add Crc.ofL

theorem rem_nat (x : Int) (n : Nat) : ∃ a : Nat, (IntKind.u64.wrap x).tmod ((n : Int) + 1) = a ∧ a ≤ n := by
  have h0 : 0 ≤ IntKind.u64.wrap x := by rw [IntKind.wrap_u64]; omega
  have e := Int.tmod_eq_emod_of_nonneg (b := (n : Int) + 1) h0
  have h1 := Int.emod_nonneg (IntKind.u64.wrap x) (b := (n : Int) + 1) (by omega)
  have h2 := Int.emod_lt_of_pos (IntKind.u64.wrap x) (b := (n : Int) + 1) (by omega)
  exact ⟨((IntKind.u64.wrap x) % ((n : Int) + 1)).toNat, by rw [e]; omega, by omega⟩

theorem ext_le (s : ByteArray) (hs : s.size ≤ maxLen) (i j : Nat) : (s.extract i j).size ≤ maxLen := by
  rw [ByteArray.size_extract]; omega
theorem parts (l : List UInt8) (a c n : Nat) (h : l.length = n) (hc : a + c ≤ n) :
    add (add (ofL (l.take a)) ((l.drop a).take c)) ((l.drop (a + c)).take (n - (a + c))) = ofL l := by
  unfold ofL
  rw [add_add, add_add]
  congr 1
  have h1 : (l.drop (a + c)).take (n - (a + c)) = l.drop (a + c) := List.take_of_length_le (by simp; omega)
  rw [h1, ← List.drop_drop, List.take_append_drop, List.take_append_drop]
theorem below_next {W a b : World} (h : Below W.heap.size W a) (k : Below a.heap.size a b) : Below W.heap.size W b := h.trans (k.mono h.size)

theorem walk (s : ByteArray) (hM : Hid (s.size ≤ maxLen)) (x y : Int) (w : World) :
    Calls Try.prog 5 #[.string s, .int .i64 x, .int .i64 y] w fun e w' => e = .returned (.bool true) ∧ Below w.heap.size w w' := by
  have hx : s.size ≤ 9223372036854775807 := hM.out
  by_cases h5 : s.size ≤ 5000
  · obtain ⟨a, ha, hal⟩ := rem_nat x s.size
    obtain ⟨c, hc, hcl⟩ := rem_nat y (s.size - a)
    have e1 : (((s.size - a : Nat) : Int) + 1) = (s.size : Int) - a + 1 := by omega
    rw [e1] at hc
    go_enter Try.func5, Try.ntmps5
    go_upto_region 7 with (first
      | (go_at_call 11; with_reducible refine (awake_any _).mono ?_; rintro e w1 ⟨rfl, hb⟩))
    clear ha hc e1
    have l1 : ((a : Int) + (c : Int)) ≤ (s.size : Int) := by omega
    have l2 : (a : Int) ≤ (s.size : Int) := by omega
    have l3 : (0 : Int) ≤ (a : Int) := by omega
    have l4 : (0 : Int) ≤ (a : Int) + (c : Int) := by omega
    have l5 : (a : Int) ≤ (a : Int) + (c : Int) := by omega
    have e2 : ((a : Int) + (c : Int)).toNat = a + c := by omega
    go_region_held3 (fun wx => Below w.heap.size w wx) (first | assumption | exact Below.drew (by assumption))
      (first
        | (go_at_call 16; with_reducible refine (of_any _ (by first | exact ext_le _ hM.out _ _ | exact hM.out) _).mono ?_; rintro e w2 ⟨rfl, hb2⟩; first | have hb := below_next hb hb2 | have hb := below_next hb.drew hb2)
        | (go_at_call 14; with_reducible refine (add_any _ (by first | exact ofL_lt _ | exact add_lt _ _) _ (ext_le _ hM.out _ _) _).mono ?_; rintro e w2 ⟨rfl, hb2⟩; first | have hb := below_next hb hb2 | have hb := below_next hb.drew hb2))
    go_wp2
    go_ret
    refine ⟨ret_bool ?_, hb⟩
    rw [parts _ a c s.size (by rw [Array.length_toList]; rfl) (by omega)]
    exact beq_self_eq_true _
  · have h5' : 5000 < s.size := by omega
    go_enter Try.func5, Try.ntmps5
    go_wp2_with (first
      | (go_at_call 11; with_reducible refine (awake_any _).mono ?_; rintro e w1 ⟨rfl, hb⟩))
    go_ret
    exact ⟨rfl, hb⟩
set_option maxRecDepth 100000 in
theorem lifted (os : Os) (started : os.Started) (H : Type) (enc : TypeId × Value → H) :
    ReturnsInHanded {} Try.checked os 5 .any (Rows.crcPartsSpec.pre6 enc Try.prog Try.f5 Rows.crcPartsRow.domain false) (Rows.crcPartsSpec.post enc Try.prog Try.f5 false true false false) := by
  refine returnsInHanded_of_change (C := Try.checked) own started (by kernel_rfl) Try.func5
    (ChangeSpec.witness6 (enc := enc) (C := Try.checked) false ⟨#[], #[.string .empty, .int .i64 0, .int .i64 0], []⟩ 8 (by kernel_rfl) (by kernel_rfl) (by kernel_rfl) (by kernel_rfl)) ?_
  intro W base args ds gs before hval0 hW hcnd _
  have hval : ∀ (j : Nat) t v, Try.f5.params[j]? = some t → args[j]? = some v → Value.okWide Try.prog W .any base t v := hval0
  have hW' := hW
  obtain ⟨p, q, hA0, hV, rfl, hfz, hnd⟩ := hW
  have hA : DataW.TrodAll enc Try.prog W 0 (fun _ => true) true Try.f5.params.toList args.toList ds p := hA0
  rw [Try.params5] at hA hval
  obtain ⟨v0, vs0, d0, ds0, p0, q0, hargs, rfl, rfl, h0, r0⟩ := trodAll_cons hA
  obtain ⟨v1, vs1, d1, ds1, p1, q1, rfl, rfl, rfl, h1, r1⟩ := trodAll_cons r0
  obtain ⟨v2, vs2, d2, ds2, p2, q2, rfl, rfl, rfl, h2, r2⟩ := trodAll_cons r1
  obtain ⟨rfl, rfl, rfl⟩ := trodAll_nil r2
  obtain rfl : args = #[v0, v1, v2] := by cases args; simp_all
  obtain ⟨s, rfl, rfl, rfl, hmax⟩ := open_string Try.underlying9 (hval 0 9 v0 rfl rfl) h0
  obtain ⟨a1, rfl, rfl, rfl, w1⟩ := open_int Try.underlying3 (hval 1 3 v1 rfl rfl) h1
  obtain ⟨a2, rfl, rfl, rfl, w2⟩ := open_int Try.underlying3 (hval 2 3 v2 rfl rfl) h2
  refine (walk s hmax a1 a2 W).mono fun e W' ⟨he, hb⟩ => ?_
  exact ⟨_, he, post_law hW' rfl rfl rfl (by rw [Try.params5]; decide +kernel) hb⟩

theorem proved : Rows.CrcPartsSaid :=
  OpenClaim.holds_of_wide 5 Try.f5 rfl rfl rfl rfl rfl rfl rfl ⟨rfl, rfl, rfl, rfl, rfl⟩ rfl rfl rfl rfl rfl (by kernel_rfl) Try.func5 (by kernel_rfl)
    (of_decide_eq_true (by kernel_rfl)) (by unfold Func.isWrapper; first | (rw [if_pos (by decide +kernel)]; kernel_rfl) | (rw [if_neg (by decide +kernel)]; exact ⟨rfl, rfl⟩))
    (fun os started H enc _ => lifted os started H enc)
#print axioms proved
end Go.Proofs.Ytalocllapbgcfaa.crcParts
