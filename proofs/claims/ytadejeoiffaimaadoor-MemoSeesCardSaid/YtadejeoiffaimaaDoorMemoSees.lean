/-
  The law MemoSees returns true at every input. No condition.
-/
import Derived.Test.YtadejeoiffaimaaDoorMsY
import Derived.Test.YtadejeoiffaimaaDoorMsCard
namespace Go.Proofs.YtadejeoiffaimaaDoor.memoSees
open Go.ChangeShapes Go.WideShapes Go.ChangeAt Go.RowKit
open Go.ChangeMaps (open_string)
open Go.Proofs.YtadejeoiffaimaaDoor
open Go.Proofs.YtadejeoiffaimaaDoor.Me

set_option maxRecDepth 100000 in
set_option maxHeartbeats 2000000 in
theorem sees_out {w : World} {A A2 : Option Addr} {c c2 : Nat} {l more : List En} (at_ : Nat) (m : Int) (RA : Hid (ERow w A l)) (RB : Hid (ERow w A2 more)) (hl : l.length ≤ 9223372036854775807) (hml : more.length ≤ 9223372036854775807) (hsz : ∀ p ∈ l, p.big) (hsz2 : ∀ p ∈ more, p.big) (hm : w.cell? ⟨0, 0, none⟩ = some (.int .i64 m))
    (h : (¬ ∀ x ∈ l, okE l.length 60 x) ∨ ((∀ x ∈ l, okE l.length 60 x) ∧ ¬ ∀ x ∈ more, okE more.length 60 x)) :
    Calls Tryd.prog 3 #[.slice A l.length c, .slice A2 more.length c2, .int .u64 at_] w fun e w' => e = .returned (.bool true) ∧ Below w.heap.size w w' := by
  have HM := Lib.hid hm
  clear hm
  rcases h with h | ⟨h, h1⟩
  · have H := Lib.hid h
    have HS := Lib.hid hsz
    clear h hsz hsz2
    go_enter Tryd.func3, Tryd.ntmps3
    go_wp2_with (first
      | (go_at_call 5; (with_reducible refine (Me.awake_any _ m HM.out).mono ?_); rintro e w1 ⟨rfl, b1⟩; have B1 := Lib.hid b1; clear b1)
      | (go_at_call 6; (with_reducible refine (light_bad (m := 60) (mi := 60) rfl (erow_on RA B1.out) (by omega) (by decide) HS.out H.out).mono ?_); rintro e w2 ⟨rfl, b2⟩; have B2 := Lib.hid (B1.out.trans (b2.mono B1.out.size)); clear b2))
    go_ret
    exact ⟨rfl, B2.out⟩
  · have H := Lib.hid h
    have H2 := Lib.hid h1
    have HS := Lib.hid hsz2
    clear h h1 hsz hsz2
    have tok : True := trivial
    go_enter Tryd.func3, Tryd.ntmps3
    go_wp2_with (first
      | (go_at_call 5; (with_reducible refine (Me.awake_any _ m HM.out).mono ?_); rintro e w1 ⟨rfl, b1⟩; have B1 := Lib.hid b1; clear b1)
      | (go_at_call 6; have _t := tok; (with_reducible refine (light_all (m := 60) (mi := 60) rfl (erow_on RA B1.out) (by omega) (by decide) H.out).mono ?_); rintro e w2 ⟨rfl, b2⟩; have B2 := Lib.hid (B1.out.trans (b2.mono B1.out.size)); clear b2 tok)
      | (go_at_call 6; (with_reducible refine (light_bad (m := 60) (mi := 60) rfl (erow_on RB B2.out) (by omega) (by decide) HS.out H2.out).mono ?_); rintro e w3 ⟨rfl, b3⟩; have B3 := Lib.hid (B2.out.trans (b3.mono B2.out.size)); clear b3))
    go_ret
    exact ⟨rfl, B3.out⟩
theorem len60 {l : List En} (h : ∀ x ∈ l, okE l.length 60 x) : l.length ≤ 60 := by
  match l, h with
  | [], _ => simp
  | x :: l, h => exact (h x (by simp)).1
theorem walk (A A2 : Option Addr) (c c2 : Nat) (l more : List En) (at_ : Nat) (w : World) (m : Int) (hl : l.length ≤ 9223372036854775807) (hml : more.length ≤ 9223372036854775807) (hsz : ∀ p ∈ l, p.big) (hsz2 : ∀ p ∈ more, p.big) (hat : at_ < 18446744073709551616) (RA : ERow w A l) (RB : ERow w A2 more) (hm : w.cell? ⟨0, 0, none⟩ = some (.int .i64 m)) :
    Calls Tryd.prog 3 #[.slice A l.length c, .slice A2 more.length c2, .int .u64 at_] w fun e w' => e = .returned (.bool true) ∧ Below w.heap.size w w' := by
  by_cases hok : ∀ x ∈ l, okE l.length 60 x
  · by_cases hok2 : ∀ x ∈ more, okE more.length 60 x
    · exact sees_main at_ m RA RB (len60 hok) (len60 hok2) hat (fun x hx => ⟨hok x hx, hsz x hx⟩) (fun x hx => ⟨hok2 x hx, hsz2 x hx⟩) hm
    · exact sees_out at_ m RA RB hl hml hsz hsz2 hm (.inr ⟨hok, hok2⟩)
  · exact sees_out at_ m RA RB hl hml hsz hsz2 hm (.inl hok)

set_option maxRecDepth 100000 in
theorem contract (H : Type) (enc : TypeId × Value → H) (W : World) (base : Nat) (args : Array Value) (ds gs : List (DataW H)) (before : List MemPlace)
    (hval : ∀ (j : Nat) t v, Tryd.f3.params[j]? = some t → args[j]? = some v → Value.okWide Tryd.prog W .any base t v)
    (hW : DataW.Whole enc Tryd.prog Tryd.f3.params.toList Rows.memoSeesSpec.vars false W args.toList ds gs before) (hsh : W.ShapedOpen Tryd.prog) :
    Calls Tryd.prog 3 args W fun e W' => ∃ v, e = .returned v ∧ Rows.memoSeesSpec.post enc Tryd.prog Tryd.f3 false true false false W args v W' := by
  have hW' := hW
  obtain ⟨p, q, hA0, hV, rfl, hfz, hnd⟩ := hW
  have hA : DataW.TrodAll enc Tryd.prog W 0 (fun _ => true) true Tryd.f3.params.toList args.toList ds p := hA0
  rw [Tryd.params3] at hA hval
  obtain ⟨v0, vs0, d0, ds0, p0, q0, hargs, rfl, rfl, h0, r0⟩ := trodAll_cons hA
  obtain ⟨v1, vs1, d1, ds1, p1, q1, rfl, rfl, rfl, h1, r1⟩ := trodAll_cons r0
  obtain ⟨v2, vs2, d2, ds2, p2, q2, rfl, rfl, rfl, h2, r2⟩ := trodAll_cons r1
  obtain ⟨rfl, rfl, rfl⟩ := trodAll_nil r2
  obtain rfl : args = #[v0, v1, v2] := by cases args; simp_all
  obtain ⟨ao, len, cap, rfl⟩ := okWide_slice Tryd.underlying22 (hval 0 22 v0 rfl rfl)
  obtain ⟨ao2, len2, cap2, rfl⟩ := okWide_slice Tryd.underlying22 (hval 1 22 v1 rfl rfl)
  obtain ⟨ai, rfl, rfl, rfl, wa⟩ := open_int Tryd.underlying23 (hval 2 23 v2 rfl rfl) h2
  obtain ⟨at_, rfl, hat⟩ := u64_nat wa
  obtain ⟨m, hm⟩ := maxLen_cell hsh
  have main : Calls Tryd.prog 3 #[.slice ao len cap, .slice ao2 len2 cap2, .int .u64 at_] W fun e W' => e = .returned (.bool true) ∧ Below W.heap.size W W' := by
    obtain ⟨fuel, hf⟩ := h0
    obtain ⟨fuel2, hf2⟩ := h1
    obtain ⟨l, rfl, RA, hl, hs⟩ := open_ents (by exact hf)
    obtain ⟨more, rfl, RB, hml, hs2⟩ := open_ents (by exact hf2)
    exact walk ao ao2 cap cap2 l more at_ W m hl hml hs hs2 hat RA RB hm
  refine (main).mono fun e W' ⟨he, hb⟩ => ?_
  exact ⟨_, he, post_law hW' rfl rfl rfl (by rw [Tryd.params3]; decide +kernel) hb⟩

set_option maxRecDepth 100000 in
theorem lifted (os : Os) (started : os.Started) (H : Type) (enc : TypeId × Value → H) (F : Stop.Interp) :
    ReturnsInHanded {} Tryd.checked os 3 .any ((OpenSpec.ofChange Rows.memoSeesSpec).preRow enc Tryd.prog Tryd.f3 Rows.memoSeesRow.domain false Rows.memoSeesRow.laid) (((OpenSpec.ofChange Rows.memoSeesSpec).at F).post enc Tryd.prog Tryd.f3 false true false false) := by
  refine returnsInHanded_of_row (C := Tryd.checked) (s := OpenSpec.ofChange Rows.memoSeesSpec) own started (by kernel_rfl) Tryd.func3
    (ChangeSpec.witness_shaped (enc := enc) (C := Tryd.checked) (os := os) (X := fun w _ => laidMetH Tryd.prog laids w) false (World.laidAll Tryd.prog os laids) #[.slice none 0 0, .slice none 0 0, .int .u64 0] 8 (World.laidAll_os _ _ _) (laid_shaped os _) (by kernel_rfl) (by kernel_rfl) (by kernel_rfl) (laid_met os _)) ?_
  intro W base args ds gs before hval hW _ _ _ _ hsh _
  exact contract H enc W base args ds gs before hval hW hsh
set_option maxRecDepth 100000 in
theorem said : Rows.MemoSeesSaid :=
  OpenClaim.holds_of_cond 3 Tryd.f3 rfl rfl rfl rfl rfl rfl rfl ⟨rfl, rfl, rfl, rfl, rfl⟩ rfl rfl rfl rfl rfl (by kernel_rfl) Tryd.func3 (by kernel_rfl)
    (of_decide_eq_true (by kernel_rfl)) (by unfold Func.isWrapper; first | (rw [if_pos (by decide +kernel)]; kernel_rfl) | (rw [if_neg (by decide +kernel)]; exact ⟨rfl, rfl⟩))
    (fun os started H enc _ F => by rw [OpenClaim.pre_eq_preRow]; exact lifted os started H enc F)
set_option maxRecDepth 100000 in
theorem plain (f : FuncId) (fn : Func) (hf : Tryd.pinned.checked.prog.funcNamed Rows.memoSeesRow.func = some f) (hfn : Tryd.pinned.checked.prog.funcs[f]? = some fn) :
    false = Tryd.pinned.checked.prog.looks [] ∧ ∀ (j : Nat) t, fn.params[j]? = some t → Tryd.pinned.checked.prog.wantsStandIn t = false := by
  obtain rfl : f = 3 := Option.some.inj ((show Tryd.prog.funcNamed Rows.memoSeesRow.func = some 3 by kernel_rfl).symm.trans hf) |>.symm
  obtain rfl : fn = Tryd.f3 := (Option.some.inj (Tryd.func3.symm.trans hfn)).symm
  refine ⟨by kernel_rfl, fun j t ht => ?_⟩
  rw [Tryd.params3] at ht
  have hm : t ∈ [22, 22, 23] := by simpa using Array.mem_of_getElem? ht
  have hall : ([22, 22, 23].all fun u => !Tryd.prog.wantsStandIn u) = true := by kernel_rfl
  exact (show Tryd.prog.wantsStandIn t = false by simpa using List.all_eq_true.1 hall t hm)
set_option maxRecDepth 100000 in
theorem proved : Rows.MemoSeesCardSaid :=
  Claim7.holds_tied_plain_at .later [] _ _ _ _ said (fun _ h => by cases h) (by kernel_rfl) (fun _ h => by cases h) memoSees_row_tie rfl ⟨rfl, rfl⟩ (by kernel_rfl) rfl plain (by kernel_rfl)
#print axioms proved
end Go.Proofs.YtadejeoiffaimaaDoor.memoSees
