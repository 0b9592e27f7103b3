/-
  The law MemoNil returns true. No condition.
-/
import Derived.Test.YtadejeoiffaimaaDoorMeH
import Derived.Test.YtadejeoiffaimaaDoorMeO
import Derived.Test.YtadejeoiffaimaaDoorMeCard
namespace Go.Proofs.YtadejeoiffaimaaDoor.memoNil
open Go.ChangeShapes Go.WideShapes Go.ChangeAt Go.RowKit
open Go.Proofs.YtadejeoiffaimaaDoor
open Go.Proofs.YtadejeoiffaimaaDoor.Me

theorem get_n {w : World} {m : Int} (hm : w.cell? ⟨0, 0, none⟩ = some (.int .i64 m)) :
    Calls Tryd.prog 9 #[.pointer none, .string ⟨#[97]⟩, .int .u64 1] w fun r w' => r = .returned (.tuple #[.agg #[.string ⟨#[]⟩, .int .u64 0, .int .i64 0, .string ⟨#[]⟩], .bool false]) ∧ Below w.heap.size w w' :=
  Me.get_nil ⟨#[97]⟩ (by decide) 1 (by decide) m hm
set_option maxRecDepth 100000 in
set_option maxHeartbeats 2000000 in
theorem walk (w : World) (m : Int) (hm : w.cell? ⟨0, 0, none⟩ = some (.int .i64 m)) : Calls Tryd.prog 4 #[] w fun e w' => e = .returned (.bool true) ∧ Below w.heap.size w w' := by
  have HM := Lib.hid hm
  clear hm
  go_enter Tryd.func4, Tryd.ntmps4
  go_wp2_with (first
    | (go_at_call 9; (with_reducible refine (get_n HM.out).mono ?_); rintro e w1 ⟨rfl, b1⟩; have M1 := Lib.hid (cell_alloc0 (cell0_below HM.out b1) (.cells #[.string ⟨#[]⟩, .int .u64 0, .int .i64 0, .string ⟨#[]⟩] 30)); have B1 := Lib.hid (b1.alloc b1.size (.cells #[.string ⟨#[]⟩, .int .u64 0, .int .i64 0, .string ⟨#[]⟩] 30)); clear b1)
    | (go_at_call 5; (with_reducible refine (Me.awake_any _ m M1.out).mono ?_); rintro e w2 ⟨rfl, b2⟩; have M2 := Lib.hid (cell0_below M1.out b2); have B2 := Lib.hid (B1.out.trans (b2.mono B1.out.size)); clear b2)
    | (go_at_call 8; (with_reducible refine (Me.add_nil _ _ _ _ _).mono ?_); rintro e w3 ⟨rfl, b3⟩; have M3 := Lib.hid (cell0_below M2.out b3); have B3 := Lib.hid (B2.out.trans (b3.mono B2.out.size)); clear b3)
    | (go_at_call 12; (with_reducible refine (Me.len_nil _).mono ?_); rintro e w' ⟨rfl, rfl⟩)
    | (go_at_call 13; (with_reducible refine (Me.bytes_nil _).mono ?_); rintro e w' ⟨rfl, rfl⟩)
    | (go_at_call 15; (with_reducible refine (Me.All_nil m M3.out).mono ?_); rintro e w4 ⟨bl4, rfl, hbl, hcap, b4⟩; have M4 := Lib.hid (cell0_below M3.out b4); have B4 := Lib.hid (B3.out.trans (b4.mono B3.out.size)); have C4 := Lib.hid hcap; clear b4 hbl hcap)
    | (go_at_call 16; have Z := B5; (with_reducible refine (Me.From_nil ⟨#[97]⟩ (by decide) m M5.out).mono ?_); rintro e w6 ⟨bl6, rfl, hbl, hcap, b6⟩; have M6 := Lib.hid (cell0_below M5.out b6); have B6 := Lib.hid (B5.out.trans (b6.mono B5.out.size)); have C6 := Lib.hid hcap; clear b6 hbl hcap)
    | (go_at_call 17; have Z := B7; (with_reducible refine (Me.Down_nil).mono ?_); rintro e w8 ⟨bl8, rfl, hbl, hcap, b8⟩; have M8 := Lib.hid (cell0_below M7.out b8); have B8 := Lib.hid (B7.out.trans (b8.mono B7.out.size)); have C8 := Lib.hid hcap; clear b8 hbl hcap)
    | (go_at_call 14; have Z := C8; (with_reducible refine (Me.row_nil (.inr rfl) C8.out m M8.out 1).mono ?_); rintro e w9 ⟨rfl, b9⟩; have B9 := Lib.hid (B8.out.trans (b9.mono B8.out.size)); clear b9)
    | (go_at_call 14; have Z := C6; (with_reducible refine (Me.row_nil (.inl rfl) C6.out m M6.out 1).mono ?_); rintro e w7 ⟨rfl, b7⟩; have M7 := Lib.hid (cell0_below M6.out b7); have B7 := Lib.hid (B6.out.trans (b7.mono B6.out.size)); clear b7)
    | (go_at_call 14; have Z := C4; (with_reducible refine (Me.row_nil (.inl rfl) C4.out m M4.out 1).mono ?_); rintro e w5 ⟨rfl, b5⟩; have M5 := Lib.hid (cell0_below M4.out b5); have B5 := Lib.hid (B4.out.trans (b5.mono B4.out.size)); clear b5))
  go_ret
  exact ⟨rfl, B9.out⟩

set_option maxRecDepth 100000 in
theorem contract (H : Type) (enc : TypeId × Value → H) (W : World) (base : Nat) (args : Array Value) (ds gs : List (DataW H)) (before : List MemPlace)
    (hval : ∀ (j : Nat) t v, Tryd.f4.params[j]? = some t → args[j]? = some v → Value.okWide Tryd.prog W .any base t v)
    (hW : DataW.Whole enc Tryd.prog Tryd.f4.params.toList Rows.memoNilSpec.vars false W args.toList ds gs before) (hsh : W.ShapedOpen Tryd.prog) :
    Calls Tryd.prog 4 args W fun e W' => ∃ v, e = .returned v ∧ Rows.memoNilSpec.post enc Tryd.prog Tryd.f4 false true false false W args v W' := by
  have hW' := hW
  obtain ⟨p, q, hA0, hV, rfl, hfz, hnd⟩ := hW
  have hA : DataW.TrodAll enc Tryd.prog W 0 (fun _ => true) true Tryd.f4.params.toList args.toList ds p := hA0
  rw [Tryd.params4] at hA hval
  obtain ⟨hargs, rfl, rfl⟩ := trodAll_nil hA
  obtain rfl : args = #[] := by cases args; simp_all
  obtain ⟨m, hm⟩ := maxLen_cell hsh
  refine (walk W m hm).mono fun e W' ⟨he, hb⟩ => ?_
  exact ⟨_, he, post_law hW' rfl rfl rfl (by rw [Tryd.params4]; decide +kernel) hb⟩

set_option maxRecDepth 100000 in
theorem lifted (os : Os) (started : os.Started) (H : Type) (enc : TypeId × Value → H) (F : Stop.Interp) :
    ReturnsInHanded {} Tryd.checked os 4 .any ((OpenSpec.ofChange Rows.memoNilSpec).preRow enc Tryd.prog Tryd.f4 Rows.memoNilRow.domain false Rows.memoNilRow.laid) (((OpenSpec.ofChange Rows.memoNilSpec).at F).post enc Tryd.prog Tryd.f4 false true false false) := by
  refine returnsInHanded_of_row (C := Tryd.checked) (s := OpenSpec.ofChange Rows.memoNilSpec) own started (by kernel_rfl) Tryd.func4
    (ChangeSpec.witness_shaped (enc := enc) (C := Tryd.checked) (os := os) (X := fun w _ => laidMetH Tryd.prog laids w) false (World.laidAll Tryd.prog os laids) #[] 8 (World.laidAll_os _ _ _) (laid_shaped os _) (by kernel_rfl) (by kernel_rfl) (by kernel_rfl) (laid_met os _)) ?_
  intro W base args ds gs before hval hW _ _ _ _ hsh _
  exact contract H enc W base args ds gs before hval hW hsh
set_option maxRecDepth 100000 in
theorem said : Rows.MemoNilSaid :=
  OpenClaim.holds_of_cond 4 Tryd.f4 rfl rfl rfl rfl rfl rfl rfl ⟨rfl, rfl, rfl, rfl, rfl⟩ rfl rfl rfl rfl rfl (by kernel_rfl) Tryd.func4 (by kernel_rfl)
    (of_decide_eq_true (by kernel_rfl)) (by unfold Func.isWrapper; first | (rw [if_pos (by decide +kernel)]; kernel_rfl) | (rw [if_neg (by decide +kernel)]; exact ⟨rfl, rfl⟩))
    (fun os started H enc _ F => by rw [OpenClaim.pre_eq_preRow]; exact lifted os started H enc F)
set_option maxRecDepth 100000 in
theorem plain (f : FuncId) (fn : Func) (hf : Tryd.pinned.checked.prog.funcNamed Rows.memoNilRow.func = some f) (hfn : Tryd.pinned.checked.prog.funcs[f]? = some fn) :
    false = Tryd.pinned.checked.prog.looks [] ∧ ∀ (j : Nat) t, fn.params[j]? = some t → Tryd.pinned.checked.prog.wantsStandIn t = false := by
  obtain rfl : f = 4 := Option.some.inj ((show Tryd.prog.funcNamed Rows.memoNilRow.func = some 4 by kernel_rfl).symm.trans hf) |>.symm
  obtain rfl : fn = Tryd.f4 := (Option.some.inj (Tryd.func4.symm.trans hfn)).symm
  refine ⟨by kernel_rfl, fun j t ht => ?_⟩
  rw [Tryd.params4] at ht
  have hm : t ∈ ([] : List TypeId) := by simpa using Array.mem_of_getElem? ht
  have hall : (([] : List TypeId).all fun u => !Tryd.prog.wantsStandIn u) = true := by kernel_rfl
  exact (show Tryd.prog.wantsStandIn t = false by simpa using List.all_eq_true.1 hall t hm)
set_option maxRecDepth 100000 in
theorem proved : Rows.MemoNilCardSaid :=
  Claim7.holds_tied_plain_at .later [] _ _ _ _ said (fun _ h => by cases h) (by kernel_rfl) (fun _ h => by cases h) memoNil_row_tie rfl ⟨rfl, rfl⟩ (by kernel_rfl) rfl plain (by kernel_rfl)
#print axioms proved
end Go.Proofs.YtadejeoiffaimaaDoor.memoNil
