/-
  The law MemoPlays returns true at every input. No condition.
-/
import Derived.Test.YtadejeoiffaimaaGreatDoorMeY
import Derived.Test.YtadejeoiffaimaaGreatDoorMpCard
namespace Go.Proofs.YtadejeoiffaimaaGreatDoor.memoPlays
open Go.ChangeShapes Go.WideShapes Go.ChangeAt Go.RowKit
open Go.ChangeMaps (open_string)
open Go.Proofs.YtadejeoiffaimaaGreatDoor
open Go.Proofs.YtadejeoiffaimaaGreatDoor.Me
open Go.Proofs.YtadejeoiffaimaaGreatDoor.Sk (NRow)

set_option maxRecDepth 100000 in
set_option maxHeartbeats 2000000 in
theorem plays_out {w : World} {A A2 : Option Addr} {c c2 : Nat} {l : List En} {nums : List Int} (key : ByteArray) (at_ mt : Nat) (m : Int) (RA : Hid (ERow w A l)) (hl : l.length ≤ 9223372036854775807) (hnl : nums.length ≤ 9223372036854775807) (hk : key.size ≤ 9223372036854775807) (hsz : ∀ p ∈ l, p.big) (hm : w.cell? ⟨0, 0, none⟩ = some (.int .i64 m))
    (h : (¬ ∀ x ∈ l, okE l.length 60 x) ∨ ((∀ x ∈ l, okE l.length 60 x) ∧ 300 < key.size) ∨ ((∀ x ∈ l, okE l.length 60 x) ∧ key.size ≤ 300 ∧ 100 < nums.length)) :
    Calls Tryz.prog 3 #[.slice A l.length c, .slice A2 nums.length c2, .string key, .int .u64 at_, .int .u8 mt] w fun e w' => e = .returned (.bool true) ∧ Below w.heap.size w w' := by
  have HM := Lib.hid hm
  clear hm
  rcases h with h | ⟨h, h1⟩ | ⟨h, h1, h2⟩
  · have H := Lib.hid h
    have HS := Lib.hid hsz
    clear h hsz
    go_enter Tryz.func3, Tryz.ntmps3
    go_wp2_with (first
      | (go_at_call 4; (with_reducible refine (Me.awake_any _ m HM.out).mono ?_); rintro e w1 ⟨rfl, b1⟩; have B1 := Lib.hid b1; clear b1)
      | (go_at_call 5; (with_reducible refine (light_bad (m := 60) (mi := 60) rfl (erow_on RA B1.out) (by omega) (by decide) HS.out H.out).mono ?_); rintro e w2 ⟨rfl, b2⟩; have B2 := Lib.hid (B1.out.trans (b2.mono B1.out.size)); clear b2))
    go_ret
    exact ⟨rfl, B2.out⟩
  · have H := Lib.hid h
    clear h hsz
    have hd2 : decide ((300 : Int) < (key.size : Int)) = true := by simp; omega
    go_enter Tryz.func3, Tryz.ntmps3
    go_wp2_with (first
      | (go_at_call 4; (with_reducible refine (Me.awake_any _ m HM.out).mono ?_); rintro e w1 ⟨rfl, b1⟩; have B1 := Lib.hid b1; clear b1)
      | (go_at_call 5; (with_reducible refine (light_all (m := 60) (mi := 60) rfl (erow_on RA B1.out) (by omega) (by decide) H.out).mono ?_); rintro e w2 ⟨rfl, b2⟩; have B2 := Lib.hid (B1.out.trans (b2.mono B1.out.size)); clear b2))
    go_ret
    exact ⟨rfl, B2.out⟩
  · have H := Lib.hid h
    clear h hsz
    have hd2 : decide ((300 : Int) < (key.size : Int)) = false := by simp; omega
    have hd3 : decide ((100 : Int) < (nums.length : Int)) = true := by simp; omega
    go_enter Tryz.func3, Tryz.ntmps3
    go_wp2_with (first
      | (go_at_call 4; (with_reducible refine (Me.awake_any _ m HM.out).mono ?_); rintro e w1 ⟨rfl, b1⟩; have B1 := Lib.hid b1; clear b1)
      | (go_at_call 5; (with_reducible refine (light_all (m := 60) (mi := 60) rfl (erow_on RA B1.out) (by omega) (by decide) H.out).mono ?_); rintro e w2 ⟨rfl, b2⟩; have B2 := Lib.hid (B1.out.trans (b2.mono B1.out.size)); clear b2))
    go_ret
    exact ⟨rfl, B2.out⟩
theorem walk (A A2 : Option Addr) (c c2 : Nat) (l : List En) (nums : List Int) (key : ByteArray) (at_ mt : Nat) (w : World) (m : Int) (hl : l.length ≤ 9223372036854775807) (hnl : nums.length ≤ 9223372036854775807) (hsz : ∀ p ∈ l, p.big) (hk : key.size ≤ 9223372036854775807) (hat : at_ < 18446744073709551616) (hmt : mt ≤ 255) (RA : ERow w A l) (RN : NRow w A2 nums) (hm : w.cell? ⟨0, 0, none⟩ = some (.int .i64 m)) :
    Calls Tryz.prog 3 #[.slice A l.length c, .slice A2 nums.length c2, .string key, .int .u64 at_, .int .u8 mt] w fun e w' => e = .returned (.bool true) ∧ Below w.heap.size w w' := by
  by_cases hok : ∀ x ∈ l, okE l.length 60 x
  · by_cases h2 : key.size ≤ 300
    · by_cases h3 : nums.length ≤ 100
      · have hl60 : l.length ≤ 60 := by
          match l, hok with
          | [], _ => simp
          | x :: l, hok => exact (hok x (by simp)).1
        exact plays_main key at_ mt m RA RN hl60 h3 h2 hat hmt (fun x hx => ⟨hok x hx, hsz x hx⟩) hm
      · exact plays_out key at_ mt m RA hl hnl hk hsz hm (.inr (.inr ⟨hok, h2, by omega⟩))
    · exact plays_out key at_ mt m RA hl hnl hk hsz hm (.inr (.inl ⟨hok, by omega⟩))
  · exact plays_out key at_ mt m RA hl hnl hk hsz hm (.inl hok)

set_option maxRecDepth 100000 in
theorem contract (H : Type) (enc : TypeId × Value → H) (W : World) (base : Nat) (args : Array Value) (ds gs : List (DataW H)) (before : List MemPlace)
    (hval : ∀ (j : Nat) t v, Tryz.f3.params[j]? = some t → args[j]? = some v → Value.okWide Tryz.prog W .any base t v)
    (hW : DataW.Whole enc Tryz.prog Tryz.f3.params.toList Rows.memoPlaysSpec.vars false W args.toList ds gs before) (hsh : W.ShapedOpen Tryz.prog) :
    Calls Tryz.prog 3 args W fun e W' => ∃ v, e = .returned v ∧ Rows.memoPlaysSpec.post enc Tryz.prog Tryz.f3 false true false false W args v W' := by
  have hW' := hW
  obtain ⟨p, q, hA0, hV, rfl, hfz, hnd⟩ := hW
  have hA : DataW.TrodAll enc Tryz.prog W 0 (fun _ => true) true Tryz.f3.params.toList args.toList ds p := hA0
  rw [Tryz.params3] at hA hval
  obtain ⟨v0, vs0, d0, ds0, p0, q0, hargs, rfl, rfl, h0, r0⟩ := trodAll_cons hA
  obtain ⟨v1, vs1, d1, ds1, p1, q1, rfl, rfl, rfl, h1, r1⟩ := trodAll_cons r0
  obtain ⟨v2, vs2, d2, ds2, p2, q2, rfl, rfl, rfl, h2, r2⟩ := trodAll_cons r1
  obtain ⟨v3, vs3, d3, ds3, p3, q3, rfl, rfl, rfl, h3, r3⟩ := trodAll_cons r2
  obtain ⟨v4, vs4, d4, ds4, p4, q4, rfl, rfl, rfl, h4, r4⟩ := trodAll_cons r3
  obtain ⟨rfl, rfl, rfl⟩ := trodAll_nil r4
  obtain rfl : args = #[v0, v1, v2, v3, v4] := by cases args; simp_all
  obtain ⟨ao, len, cap, rfl⟩ := okWide_slice Tryz.underlying22 (hval 0 22 v0 rfl rfl)
  obtain ⟨ao2, len2, cap2, rfl⟩ := okWide_slice Tryz.underlying23 (hval 1 23 v1 rfl rfl)
  obtain ⟨key, rfl, rfl, rfl, mk⟩ := open_string Tryz.underlying9 (hval 2 9 v2 rfl rfl) h2
  obtain ⟨ai, rfl, rfl, rfl, wa⟩ := open_int Tryz.underlying24 (hval 3 24 v3 rfl rfl) h3
  obtain ⟨at_, rfl, hat⟩ := u64_nat wa
  obtain ⟨mi, rfl, rfl, rfl, wm⟩ := open_int Tryz.underlying5 (hval 4 5 v4 rfl rfl) h4
  obtain ⟨mt, rfl, hmt⟩ : ∃ n : Nat, mi = n ∧ n ≤ 255 := by
    have hx : 0 ≤ mi ∧ mi ≤ 255 := by simpa [Lit.wf, IntKind.min, IntKind.max, IntKind.signed, IntKind.bits] using wm
    exact ⟨mi.toNat, by omega, by omega⟩
  obtain ⟨m, hm⟩ := maxLen_cell hsh
  have main : Calls Tryz.prog 3 #[.slice ao len cap, .slice ao2 len2 cap2, .string key, .int .u64 at_, .int .u8 mt] W fun e W' => e = .returned (.bool true) ∧ Below W.heap.size W W' := by
    obtain ⟨fuel, hf⟩ := h0
    obtain ⟨fuel2, hf2⟩ := h1
    obtain ⟨l, rfl, RA, hl, hs⟩ := open_ents (by exact hf)
    obtain ⟨nums, rfl, RN, hnl⟩ := Sk.open_nums (by exact hf2)
    exact walk ao ao2 cap cap2 l nums key at_ mt W m hl hnl hs (by unfold maxLen at mk; omega) hat hmt RA RN hm
  refine (main).mono fun e W' ⟨he, hb⟩ => ?_
  exact ⟨_, he, post_law hW' rfl rfl rfl (by rw [Tryz.params3]; decide +kernel) hb⟩

set_option maxRecDepth 100000 in
theorem lifted (os : Os) (started : os.Started) (H : Type) (enc : TypeId × Value → H) (F : Stop.Interp) :
    ReturnsInHanded {} Tryz.checked os 3 .any ((OpenSpec.ofChange Rows.memoPlaysSpec).preRow enc Tryz.prog Tryz.f3 Rows.memoPlaysRow.domain false Rows.memoPlaysRow.laid) (((OpenSpec.ofChange Rows.memoPlaysSpec).at F).post enc Tryz.prog Tryz.f3 false true false false) := by
  refine returnsInHanded_of_row (C := Tryz.checked) (s := OpenSpec.ofChange Rows.memoPlaysSpec) own started (by kernel_rfl) Tryz.func3
    (ChangeSpec.witness_shaped (enc := enc) (C := Tryz.checked) (os := os) (X := fun w _ => laidMetH Tryz.prog laids w) false (World.laidAll Tryz.prog os laids) #[.slice none 0 0, .slice none 0 0, .string .empty, .int .u64 0, .int .u8 0] 8 (World.laidAll_os _ _ _) (laid_shaped os _) (by kernel_rfl) (by kernel_rfl) (by kernel_rfl) (laid_met os _)) ?_
  intro W base args ds gs before hval hW _ _ _ _ hsh _
  exact contract H enc W base args ds gs before hval hW hsh
set_option maxRecDepth 100000 in
theorem said : Rows.MemoPlaysSaid :=
  OpenClaim.holds_of_cond 3 Tryz.f3 rfl rfl rfl rfl rfl rfl rfl ⟨rfl, rfl, rfl, rfl, rfl⟩ rfl rfl rfl rfl rfl (by kernel_rfl) Tryz.func3 (by kernel_rfl)
    (of_decide_eq_true (by kernel_rfl)) (by unfold Func.isWrapper; first | (rw [if_pos (by decide +kernel)]; kernel_rfl) | (rw [if_neg (by decide +kernel)]; exact ⟨rfl, rfl⟩))
    (fun os started H enc _ F => by rw [OpenClaim.pre_eq_preRow]; exact lifted os started H enc F)
set_option maxRecDepth 100000 in
theorem plain (f : FuncId) (fn : Func) (hf : Tryz.pinned.checked.prog.funcNamed Rows.memoPlaysRow.func = some f) (hfn : Tryz.pinned.checked.prog.funcs[f]? = some fn) :
    false = Tryz.pinned.checked.prog.looks [] ∧ ∀ (j : Nat) t, fn.params[j]? = some t → Tryz.pinned.checked.prog.wantsStandIn t = false := by
  obtain rfl : f = 3 := Option.some.inj ((show Tryz.prog.funcNamed Rows.memoPlaysRow.func = some 3 by kernel_rfl).symm.trans hf) |>.symm
  obtain rfl : fn = Tryz.f3 := (Option.some.inj (Tryz.func3.symm.trans hfn)).symm
  refine ⟨by kernel_rfl, fun j t ht => ?_⟩
  rw [Tryz.params3] at ht
  have hm : t ∈ [22, 23, 9, 24, 5] := by simpa using Array.mem_of_getElem? ht
  have hall : ([22, 23, 9, 24, 5].all fun u => !Tryz.prog.wantsStandIn u) = true := by kernel_rfl
  exact (show Tryz.prog.wantsStandIn t = false by simpa using List.all_eq_true.1 hall t hm)
set_option maxRecDepth 100000 in
theorem proved : Rows.MemoPlaysCardSaid :=
  Claim7.holds_tied_plain_at .later [] _ _ _ _ said (fun _ h => by cases h) (by kernel_rfl) (fun _ h => by cases h) memoPlays_row_tie rfl ⟨rfl, rfl⟩ (by kernel_rfl) rfl plain (by kernel_rfl)
#print axioms proved
end Go.Proofs.YtadejeoiffaimaaGreatDoor.memoPlays
