/-
  The law EditNames returns true at every input. No condition.
-/
import Derived.Test.YtomokbcamfmfcaaDoorEdCard
namespace Go.Proofs.YtomokbcamfmfcaaDoor.editNames
open Go.ChangeShapes Go.WideShapes Go.ChangeAt Go.RowKit
open Go.ChangeMaps (open_string)
open Go.Proofs.YtomokbcamfmfcaaDoor
open Vi Ed

theorem number_nm (kind : List UInt8) (n : Nat) (hn : n < 18446744073709551616) : number kind (nm kind n) = some n := by
  have e : nm kind n = (kind ++ [45]) ++ Go.Lib.decDigits n := rfl
  rw [e, number_on, puB_digits hn]
  exact if_pos rfl
set_option maxHeartbeats 1000000 in
set_option maxRecDepth 100000 in
theorem walk_short (K N : List UInt8) (n : Nat) (hk : K.length ≤ 100) (hn : N.length ≤ 100) (hu : n < 18446744073709551616) (w : World) (hw : Known w) :
    Calls Tryd.prog 3 #[.string (bs K), .string (bs N), .int .u64 n] w fun e w' => e = .returned (.bool true) ∧ Below w.heap.size w w' := by
  have AW := Lib.hid fun (W : World) (h : Known W) => awake_any W h.tab
  have H1 := Lib.hid fun (W : World) (h : Known W) => Ed.number_any K N (by omega) (by omega) W h
  have H2 := Lib.hid fun (W : World) => rnumber_any K N (by omega) (by omega) W
  have H3 := Lib.hid fun (W : World) (h : Known W) => name_any K (by omega) n hu W h.tab
  have hl : (nm K n).length ≤ 10000 := by unfold nm; have := digits_len20 hu; simp; omega
  have H4 : Hid (∀ (W : World), Known W → Calls Tryd.prog 7 #[.string (bs K), .string (bs (nm K n))] W (NuPost W (some n))) := fun W h => by
    have := Ed.number_any K (nm K n) (by omega) hl W h
    rw [number_nm K n hu] at this
    exact this
  have H5 := Lib.hid fun (W : World) => rname_any K (by omega) n hu W
  have z1 := bs_size K
  have z2 := bs_size N
  have hse : ((bs (nm K n)).toList == (bs (nm K n)).toList) = true := beq_self_eq_true _
  replace hw := Lib.hid hw
  unfold NuPost at H1 H2 H4
  generalize (number K N).getD 0 = m at H1 H2
  generalize (number K N).isSome = b at H1 H2
  cases b
  all_goals
    go_enter Tryd.func3, Tryd.ntmps3
    go_wp2_with (first
      | (go_at_call 6; (with_reducible refine (AW.out _ hw.out).mono ?_); rintro e w1 ⟨rfl, b1⟩; have K1 := Lib.hid (hw.out.on b1); have B1 := Lib.hid b1; clear b1)
      | (go_at_call 10; (with_reducible refine (H5.out _).mono ?_); rintro e w7 ⟨rfl, b7⟩; have B7 := Lib.hid (B6.out.trans (b7.mono B6.out.size)); clear b7)
      | (go_at_call 9; have Z := B5; (with_reducible refine (H3.out _ (hw.out.on B5.out)).mono ?_); rintro e w6 ⟨rfl, b6⟩; have B6 := Lib.hid (B5.out.trans (b6.mono B5.out.size)); clear b6)
      | (go_at_call 7; have Z := B4; (with_reducible refine (H4.out _ (hw.out.on B4.out)).mono ?_); rintro e w5 ⟨rfl, b5⟩; have B5 := Lib.hid (B4.out.trans (b5.mono B4.out.size)); clear b5)
      | (go_at_call 9; have Z := B3; (with_reducible refine (H3.out _ (hw.out.on B3.out)).mono ?_); rintro e w4 ⟨rfl, b4⟩; have B4 := Lib.hid (B3.out.trans (b4.mono B3.out.size)); clear b4)
      | (go_at_call 8; (with_reducible refine (H2.out _).mono ?_); rintro e w3 ⟨rfl, b3⟩; have B3 := Lib.hid (B2.out.trans (b3.mono B2.out.size)); clear b3)
      | (go_at_call 7; (with_reducible refine (H1.out _ K1.out).mono ?_); rintro e w2 ⟨rfl, b2⟩; have B2 := Lib.hid (B1.out.trans (b2.mono B1.out.size)); clear b2))
    go_ret
    exact ⟨rfl, B7.out⟩
theorem walk_long (k s : ByteArray) (n : Nat) (hkm : k.size ≤ 9223372036854775807) (hsm : s.size ≤ 9223372036854775807) (h : 100 < k.size ∨ (k.size ≤ 100 ∧ 100 < s.size)) (w : World) (hw : Known w) :
    Calls Tryd.prog 3 #[.string k, .string s, .int .u64 n] w fun e w' => e = .returned (.bool true) ∧ Below w.heap.size w w' := by
  have AW := Lib.hid (awake_any w hw.tab)
  clear hw
  rcases h with h | ⟨h1, h⟩
  all_goals
    go_enter Tryd.func3, Tryd.ntmps3
    go_wp2_with (go_at_call 6; (with_reducible refine AW.out.mono ?_); rintro e w1 ⟨rfl, hb⟩)
    go_ret
    exact ⟨rfl, hb⟩
theorem walk (k s : ByteArray) (n : Nat) (hkm : k.size ≤ maxLen) (hsm : s.size ≤ maxLen) (hu : n < 18446744073709551616) (w : World) (hw : Known w) :
    Calls Tryd.prog 3 #[.string k, .string s, .int .u64 n] w fun e w' => e = .returned (.bool true) ∧ Below w.heap.size w w' := by
  by_cases h1 : k.size ≤ 100
  · by_cases h2 : s.size ≤ 100
    · have := walk_short k.data.toList s.data.toList n h1 h2 hu w hw
      rw [bs_of, bs_of] at this
      exact this
    · exact walk_long k s n hkm hsm (.inr ⟨h1, by omega⟩) w hw
  · exact walk_long k s n hkm hsm (.inl (by omega)) w hw

theorem nat_u64 {n : Int} (h0 : 0 ≤ n) : ∃ m : Nat, n = m := ⟨n.toNat, by omega⟩
set_option maxRecDepth 100000 in
theorem contract (H : Type) (enc : TypeId × Value → H) (W : World) (base : Nat) (args : Array Value) (ds gs : List (DataW H)) (before : List MemPlace)
    (hval : ∀ (j : Nat) t v, Tryd.f3.params[j]? = some t → args[j]? = some v → Value.okWide Tryd.prog W .any base t v)
    (hW : DataW.Whole enc Tryd.prog Tryd.f3.params.toList Rows.editNamesSpec.vars false W args.toList ds gs before) (hw : Known W) :
    Calls Tryd.prog 3 args W fun e W' => ∃ v, e = .returned v ∧ Rows.editNamesSpec.post enc Tryd.prog Tryd.f3 false true false false W args v W' := by
  have hW' := hW
  obtain ⟨p, q, hA0, hV, rfl, hfz, hnd⟩ := hW
  have hA : DataW.TrodAll enc Tryd.prog W 0 (fun _ => true) true Tryd.f3.params.toList args.toList ds p := hA0
  rw [Tryd.params3] at hA hval
  obtain ⟨v0, vs0, d0, ds0, p0, q0, hargs, rfl, rfl, h0, r0⟩ := trodAll_cons hA
  obtain ⟨v1, vs1, d1, ds1, p1, q1, rfl, rfl, rfl, h1, r1⟩ := trodAll_cons r0
  obtain ⟨v2, vs2, d2, ds2, p2, q2, rfl, rfl, rfl, h2, r2⟩ := trodAll_cons r1
  obtain ⟨rfl, rfl, rfl⟩ := trodAll_nil r2
  obtain rfl : args = #[v0, v1, v2] := by cases args; simp_all
  obtain ⟨s0, rfl, rfl, rfl, m0⟩ := open_string Tryd.underlying9 (hval 0 9 v0 rfl rfl) h0
  obtain ⟨s1, rfl, rfl, rfl, m1⟩ := open_string Tryd.underlying9 (hval 1 9 v1 rfl rfl) h1
  obtain ⟨n2, rfl, rfl, rfl, w2⟩ := open_int Tryd.underlying22 (hval 2 22 v2 rfl rfl) h2
  obtain ⟨n, rfl, hn⟩ := u64_nat w2
  refine (walk s0 s1 n m0 m1 hn W hw).mono fun e W' ⟨he, hb⟩ => ?_
  exact ⟨_, he, post_law hW' rfl rfl rfl (by rw [Tryd.params3]; decide +kernel) hb⟩
def laids : List (String × DataW Unit) := Rows.editNamesRow.laid
theorem laid_shaped (os : Os) (args : Array Value) : ((World.laidAll Tryd.prog os laids).forCall (fun _ _ => 0) ⟨#[], args, []⟩).Shaped Tryd.prog :=
  World.shaped_of_ZipB (by kernel_rfl) (by kernel_rfl)
theorem laid_met (os : Os) (args : Array Value) : laidMetH Tryd.prog laids ((World.laidAll Tryd.prog os laids).forCall (fun _ _ => 0) ⟨#[], args, []⟩).memory := by
  rw [MakeChecks.laidMetH_plain _ _ _ (by kernel_rfl)]
  exact laidMet_laidAll _ (by kernel_rfl) (by kernel_rfl)
set_option maxRecDepth 100000 in
theorem lifted (os : Os) (started : os.Started) (H : Type) (enc : TypeId × Value → H) (F : Stop.Interp) :
    ReturnsInHanded {} Tryd.checked os 3 .any ((OpenSpec.ofChange Rows.editNamesSpec).preRow enc Tryd.prog Tryd.f3 Rows.editNamesRow.domain false Rows.editNamesRow.laid) (((OpenSpec.ofChange Rows.editNamesSpec).at F).post enc Tryd.prog Tryd.f3 false true false false) := by
  refine returnsInHanded_of_row (C := Tryd.checked) (s := OpenSpec.ofChange Rows.editNamesSpec) own started (by kernel_rfl) Tryd.func3
    (ChangeSpec.witness_shaped (enc := enc) (C := Tryd.checked) (os := os) (X := fun w _ => laidMetH Tryd.prog laids w) false (World.laidAll Tryd.prog os laids) #[.string .empty, .string .empty, .int .u64 0] 8 (World.laidAll_os _ _ _) (laid_shaped os _) (by kernel_rfl) (by kernel_rfl) (by kernel_rfl) (laid_met os _)) ?_
  intro W base args ds gs before hval hW _ _ _ hL _ _
  rw [MakeChecks.laidMetH_plain _ _ _ (by kernel_rfl)] at hL
  exact contract H enc W base args ds gs before hval hW (known_of hL)
set_option maxRecDepth 100000 in
theorem said : Rows.EditNamesSaid :=
  OpenClaim.holds_of_cond 3 Tryd.f3 rfl rfl rfl rfl rfl rfl rfl ⟨rfl, rfl, rfl, rfl, rfl⟩ rfl rfl rfl rfl rfl (by kernel_rfl) Tryd.func3 (by kernel_rfl)
    (of_decide_eq_true (by kernel_rfl)) (by unfold Func.isWrapper; first | (rw [if_pos (by decide +kernel)]; kernel_rfl) | (rw [if_neg (by decide +kernel)]; exact ⟨rfl, rfl⟩))
    (fun os started H enc _ F => by rw [OpenClaim.pre_eq_preRow]; exact lifted os started H enc F)
set_option maxRecDepth 100000 in
theorem plain (f : FuncId) (fn : Func) (hf : Tryd.pinned.checked.prog.funcNamed Rows.editNamesRow.func = some f) (hfn : Tryd.pinned.checked.prog.funcs[f]? = some fn) :
    true = Tryd.pinned.checked.prog.looks [] ∧ ∀ (j : Nat) t, fn.params[j]? = some t → Tryd.pinned.checked.prog.wantsStandIn t = false := by
  obtain rfl : f = 3 := Option.some.inj ((show Tryd.prog.funcNamed Rows.editNamesRow.func = some 3 by kernel_rfl).symm.trans hf) |>.symm
  obtain rfl : fn = Tryd.f3 := (Option.some.inj (Tryd.func3.symm.trans hfn)).symm
  refine ⟨by kernel_rfl, fun j t ht => ?_⟩
  rw [Tryd.params3] at ht
  have hm : t ∈ [9, 9, 22] := by simpa using Array.mem_of_getElem? ht
  have hall : ([9, 9, 22].all fun u => !Tryd.prog.wantsStandIn u) = true := by kernel_rfl
  exact (show Tryd.prog.wantsStandIn t = false by simpa using List.all_eq_true.1 hall t hm)
set_option maxRecDepth 100000 in
theorem proved : Rows.EditNamesCardSaid :=
  Claim7.holds_tied_plain_at .later [] _ _ _ _ said (fun _ h => by cases h) (by kernel_rfl) (fun _ h => by cases h) editNames_row_tie rfl ⟨rfl, rfl⟩ (by kernel_rfl) rfl plain (by kernel_rfl)
#print axioms proved
end Go.Proofs.YtomokbcamfmfcaaDoor.editNames
