/-
  The law KeyNumbers returns true at every input. No condition.
-/
import Derived.Test.YtgpifihghklgfaaDoorKyNum
import Derived.Test.YtgpifihghklgfaaDoorKyCard
namespace Go.Proofs.YtgpifihghklgfaaDoor.keyNumbers
open Go.ChangeShapes Go.WideShapes Go.ChangeAt Go.RowKit
open Go.ChangeMaps (open_string)
open Go.Proofs.YtgpifihghklgfaaDoor
open Vi

theorem bl_same (x : UInt8) (l k : List UInt8) : Op.bytesLess (x :: l) (x :: k) = Op.bytesLess l k := bl_eq x l k
set_option maxRecDepth 100000 in
set_option maxHeartbeats 4000000 in
theorem walk_main (a b : Int) (a1 : -9223372036854775808 ≤ a) (a2 : a ≤ 9223372036854775807) (b1 : -9223372036854775808 ≤ b) (b2 : b ≤ 9223372036854775807) (c d : Nat) (hc : c < 18446744073709551616) (hd : d < 18446744073709551616) (s t : ByteArray) (hs : s.size ≤ 90) (ht : t.size ≤ 90) (w : World) (m : Int) (hm : w.cell? ⟨0, 0, none⟩ = some (.int .i64 m)) :
    Calls Tryd.prog 5 #[.int .i64 a, .int .i64 b, .int .u64 c, .int .u64 d, .string s, .string t] w fun e w' => e = .returned (.bool true) ∧ Below w.heap.size w w' := by
  have HM := Lib.hid hm
  have hs2 : Hid (s.size ≤ 281474976710656) := by show _ ≤ _; omega
  have ht2 : Hid (t.size ≤ 281474976710656) := by show _ ≤ _; omega
  have e1 : Op.bytesLess (105 :: big8 (lift a)) (105 :: big8 (lift b)) = decide (a < b) := by
    rw [bl_eq, bl_big8 (lift_lt a1 a2) (lift_lt b1 b2), Bool.eq_iff_iff]; simp [lift]; omega
  have e2 : Op.bytesLess (100 :: big8 (18446744073709551615 - lift a)) (100 :: big8 (18446744073709551615 - lift b)) = decide (b < a) := by
    have ha := lift_lt a1 a2
    have hb := lift_lt b1 b2
    rw [bl_eq, bl_big8 (by omega) (by omega)]; refine decide_eq_decide.2 ?_; unfold lift at ha hb ⊢; omega
  have e3 : Op.bytesLess (117 :: big8 c) (117 :: big8 d) = decide (c < d) := by rw [bl_eq, bl_big8 hc hd]
  have e4 : Op.bytesLess (116 :: (esc s.data.toList ++ [0, 0])) (116 :: (esc t.data.toList ++ [0, 0])) = Op.bytesLess s.toList t.toList := by
    rw [bl_eq, bl_esc, Lib.toList_data, Lib.toList_data]
  have hbl := bs_list
  clear hm
  go_enter Tryd.func5, Tryd.ntmps5
  go_wp2_with (first
      | (go_at_call 7; refine (awake_any _ m HM.out).mono ?_; rintro e w1 ⟨rfl, hb⟩)
      | (go_at_call 22; (with_reducible refine (up_any _ _).mono ?_); rintro e w2 ⟨rfl, hb'⟩; have hb := hb.trans (hb'.mono hb.size); clear hb')
      | (go_at_call 23; (with_reducible refine (down_any _ _).mono ?_); rintro e w2 ⟨rfl, hb'⟩; have hb := hb.trans (hb'.mono hb.size); clear hb')
      | (go_at_call 24; (with_reducible refine (count_any c _).mono ?_); rintro e w2 ⟨rfl, hb'⟩; have hb := hb.trans (hb'.mono hb.size); clear hb')
      | (go_at_call 24; (with_reducible refine (count_any d _).mono ?_); rintro e w2 ⟨rfl, hb'⟩; have hb := hb.trans (hb'.mono hb.size); clear hb')
      | (go_at_call 25; (with_reducible refine (ktext_any s hs2.out _).mono ?_); rintro e w2 ⟨rfl, hb'⟩; have hb := hb.trans (hb'.mono hb.size); clear hb')
      | (go_at_call 25; (with_reducible refine (ktext_any t ht2.out _).mono ?_); rintro e w2 ⟨rfl, hb'⟩; have hb := hb.trans (hb'.mono hb.size); clear hb')
      | (go_at_call 21; (with_reducible refine (k_up a a1 a2 m (cell0_below HM.out hb)).mono ?_); rintro e w2 ⟨rfl, hb'⟩; have hb := hb.trans (hb'.mono hb.size); clear hb')
      | (go_at_call 21; (with_reducible refine (k_up b b1 b2 m (cell0_below HM.out hb)).mono ?_); rintro e w2 ⟨rfl, hb'⟩; have hb := hb.trans (hb'.mono hb.size); clear hb')
      | (go_at_call 21; (with_reducible refine (k_down a a1 a2 m (cell0_below HM.out hb)).mono ?_); rintro e w2 ⟨rfl, hb'⟩; have hb := hb.trans (hb'.mono hb.size); clear hb')
      | (go_at_call 21; (with_reducible refine (k_down b b1 b2 m (cell0_below HM.out hb)).mono ?_); rintro e w2 ⟨rfl, hb'⟩; have hb := hb.trans (hb'.mono hb.size); clear hb')
      | (go_at_call 21; (with_reducible refine (k_count c hc m (cell0_below HM.out hb)).mono ?_); rintro e w2 ⟨rfl, hb'⟩; have hb := hb.trans (hb'.mono hb.size); clear hb')
      | (go_at_call 21; (with_reducible refine (k_count d hd m (cell0_below HM.out hb)).mono ?_); rintro e w2 ⟨rfl, hb'⟩; have hb := hb.trans (hb'.mono hb.size); clear hb')
      | (go_at_call 21; (with_reducible refine (k_text s hs m (cell0_below HM.out hb)).mono ?_); rintro e w2 ⟨rfl, hb'⟩; have hb := hb.trans (hb'.mono hb.size); clear hb')
      | (go_at_call 21; (with_reducible refine (k_text t ht m (cell0_below HM.out hb)).mono ?_); rintro e w2 ⟨rfl, hb'⟩; have hb := hb.trans (hb'.mono hb.size); clear hb'))
  go_ret
  exact ⟨ret_bool (by first | rfl | simp), hb⟩
theorem walk_long (a b : Int) (c d : Nat) (s t : ByteArray) (hsm : s.size ≤ 9223372036854775807) (htm : t.size ≤ 9223372036854775807) (h : 90 < s.size ∨ (s.size ≤ 90 ∧ 90 < t.size)) (w : World) (m : Int) (hm : w.cell? ⟨0, 0, none⟩ = some (.int .i64 m)) :
    Calls Tryd.prog 5 #[.int .i64 a, .int .i64 b, .int .u64 c, .int .u64 d, .string s, .string t] w fun e w' => e = .returned (.bool true) ∧ Below w.heap.size w w' := by
  have HM := Lib.hid hm
  clear hm
  rcases h with h | ⟨h1, h⟩
  all_goals
    go_enter Tryd.func5, Tryd.ntmps5
    go_wp2_with (go_at_call 7; refine (awake_any _ m HM.out).mono ?_; rintro e w1 ⟨rfl, hb⟩)
    go_ret
    exact ⟨rfl, hb⟩
theorem walk (a b : Int) (a1 : -9223372036854775808 ≤ a) (a2 : a ≤ 9223372036854775807) (b1 : -9223372036854775808 ≤ b) (b2 : b ≤ 9223372036854775807) (c d : Nat) (hc : c < 18446744073709551616) (hd : d < 18446744073709551616) (s t : ByteArray) (hsm : s.size ≤ maxLen) (htm : t.size ≤ maxLen) (w : World) (m : Int) (hm : w.cell? ⟨0, 0, none⟩ = some (.int .i64 m)) :
    Calls Tryd.prog 5 #[.int .i64 a, .int .i64 b, .int .u64 c, .int .u64 d, .string s, .string t] w fun e w' => e = .returned (.bool true) ∧ Below w.heap.size w w' := by
  by_cases hs : s.size ≤ 90
  · by_cases ht : t.size ≤ 90
    · exact walk_main a b a1 a2 b1 b2 c d hc hd s t hs ht w m hm
    · exact walk_long a b c d s t hsm htm (.inr ⟨hs, by omega⟩) w m hm
  · exact walk_long a b c d s t hsm htm (.inl (by omega)) w m hm

set_option maxRecDepth 100000 in
theorem contract (H : Type) (enc : TypeId × Value → H) (W : World) (base : Nat) (args : Array Value) (ds gs : List (DataW H)) (before : List MemPlace)
    (hval : ∀ (j : Nat) t v, Tryd.f5.params[j]? = some t → args[j]? = some v → Value.okWide Tryd.prog W .any base t v)
    (hW : DataW.Whole enc Tryd.prog Tryd.f5.params.toList Rows.keyNumbersSpec.vars false W args.toList ds gs before) (hsh : W.ShapedOpen Tryd.prog) :
    Calls Tryd.prog 5 args W fun e W' => ∃ v, e = .returned v ∧ Rows.keyNumbersSpec.post enc Tryd.prog Tryd.f5 false true false false W args v W' := by
  have hW' := hW
  obtain ⟨p, q, hA0, hV, rfl, hfz, hnd⟩ := hW
  have hA : DataW.TrodAll enc Tryd.prog W 0 (fun _ => true) true Tryd.f5.params.toList args.toList ds p := hA0
  rw [Tryd.params5] at hA hval
  obtain ⟨v0, vs0, d0, ds0, p0, q0, hargs, rfl, rfl, h0, r0⟩ := trodAll_cons hA
  obtain ⟨v1, vs1, d1, ds1, p1, q1, rfl, rfl, rfl, h1, r1⟩ := trodAll_cons r0
  obtain ⟨v2, vs2, d2, ds2, p2, q2, rfl, rfl, rfl, h2, r2⟩ := trodAll_cons r1
  obtain ⟨v3, vs3, d3, ds3, p3, q3, rfl, rfl, rfl, h3, r3⟩ := trodAll_cons r2
  obtain ⟨v4, vs4, d4, ds4, p4, q4, rfl, rfl, rfl, h4, r4⟩ := trodAll_cons r3
  obtain ⟨v5, vs5, d5, ds5, p5, q5, rfl, rfl, rfl, h5, r5⟩ := trodAll_cons r4
  obtain ⟨rfl, rfl, rfl⟩ := trodAll_nil r5
  obtain rfl : args = #[v0, v1, v2, v3, v4, v5] := by cases args; simp_all
  obtain ⟨a0, rfl, rfl, rfl, w0⟩ := open_int Tryd.underlying2 (hval 0 2 v0 rfl rfl) h0
  obtain ⟨l0, m0⟩ := i64_bd w0
  obtain ⟨a1, rfl, rfl, rfl, w1⟩ := open_int Tryd.underlying2 (hval 1 2 v1 rfl rfl) h1
  obtain ⟨l1, m1⟩ := i64_bd w1
  obtain ⟨a2, rfl, rfl, rfl, w2⟩ := open_int Tryd.underlying38 (hval 2 38 v2 rfl rfl) h2
  obtain ⟨n2, rfl, m2⟩ := u64_nat w2
  obtain ⟨a3, rfl, rfl, rfl, w3⟩ := open_int Tryd.underlying38 (hval 3 38 v3 rfl rfl) h3
  obtain ⟨n3, rfl, m3⟩ := u64_nat w3
  obtain ⟨s4, rfl, rfl, rfl, m4⟩ := open_string Tryd.underlying9 (hval 4 9 v4 rfl rfl) h4
  obtain ⟨s5, rfl, rfl, rfl, m5⟩ := open_string Tryd.underlying9 (hval 5 9 v5 rfl rfl) h5
  obtain ⟨m, hm⟩ := maxLen_cell hsh
  refine (walk a0 a1 l0 m0 l1 m1 n2 n3 m2 m3 s4 s5 m4 m5 W m hm).mono fun e W' ⟨he, hb⟩ => ?_
  exact ⟨_, he, post_law hW' rfl rfl rfl (by rw [Tryd.params5]; decide +kernel) hb⟩

set_option maxRecDepth 100000 in
theorem lifted (os : Os) (started : os.Started) (H : Type) (enc : TypeId × Value → H) (F : Stop.Interp) :
    ReturnsInHanded {} Tryd.checked os 5 .any ((OpenSpec.ofChange Rows.keyNumbersSpec).preRow enc Tryd.prog Tryd.f5 Rows.keyNumbersRow.domain false Rows.keyNumbersRow.laid) (((OpenSpec.ofChange Rows.keyNumbersSpec).at F).post enc Tryd.prog Tryd.f5 false true false false) := by
  refine returnsInHanded_of_row (C := Tryd.checked) (s := OpenSpec.ofChange Rows.keyNumbersSpec) own started (by kernel_rfl) Tryd.func5
    (ChangeSpec.witness_shaped (enc := enc) (C := Tryd.checked) (os := os) (X := fun w _ => laidMetH Tryd.prog laids w) false (World.laidAll Tryd.prog os laids) #[.int .i64 0, .int .i64 0, .int .u64 0, .int .u64 0, .string .empty, .string .empty] 8 (World.laidAll_os _ _ _) (laid_shaped os _) (by kernel_rfl) (by kernel_rfl) (by kernel_rfl) (laid_met os _)) ?_
  intro W base args ds gs before hval hW _ _ _ _ hsh _
  exact contract H enc W base args ds gs before hval hW hsh
set_option maxRecDepth 100000 in
theorem said : Rows.KeyNumbersSaid :=
  OpenClaim.holds_of_cond 5 Tryd.f5 rfl rfl rfl rfl rfl rfl rfl ⟨rfl, rfl, rfl, rfl, rfl⟩ rfl rfl rfl rfl rfl (by kernel_rfl) Tryd.func5 (by kernel_rfl)
    (of_decide_eq_true (by kernel_rfl)) (by unfold Func.isWrapper; first | (rw [if_pos (by decide +kernel)]; kernel_rfl) | (rw [if_neg (by decide +kernel)]; exact ⟨rfl, rfl⟩))
    (fun os started H enc _ F => by rw [OpenClaim.pre_eq_preRow]; exact lifted os started H enc F)
set_option maxRecDepth 100000 in
theorem plain (f : FuncId) (fn : Func) (hf : Tryd.pinned.checked.prog.funcNamed Rows.keyNumbersRow.func = some f) (hfn : Tryd.pinned.checked.prog.funcs[f]? = some fn) :
    false = Tryd.pinned.checked.prog.looks [] ∧ ∀ (j : Nat) t, fn.params[j]? = some t → Tryd.pinned.checked.prog.wantsStandIn t = false := by
  obtain rfl : f = 5 := Option.some.inj ((show Tryd.prog.funcNamed Rows.keyNumbersRow.func = some 5 by kernel_rfl).symm.trans hf) |>.symm
  obtain rfl : fn = Tryd.f5 := (Option.some.inj (Tryd.func5.symm.trans hfn)).symm
  refine ⟨by kernel_rfl, fun j t ht => ?_⟩
  rw [Tryd.params5] at ht
  have hm : t ∈ [2, 2, 38, 38, 9, 9] := by simpa using Array.mem_of_getElem? ht
  have hall : ([2, 2, 38, 38, 9, 9].all fun u => !Tryd.prog.wantsStandIn u) = true := by kernel_rfl
  exact (show Tryd.prog.wantsStandIn t = false by simpa using List.all_eq_true.1 hall t hm)
set_option maxRecDepth 100000 in
theorem proved : Rows.KeyNumbersCardSaid :=
  Claim7.holds_tied_plain_at .later [] _ _ _ _ said (fun _ h => by cases h) (by kernel_rfl) (fun _ h => by cases h) keyNumbers_row_tie rfl ⟨rfl, rfl⟩ (by kernel_rfl) rfl plain (by kernel_rfl)
#print axioms proved
end Go.Proofs.YtgpifihghklgfaaDoor.keyNumbers
