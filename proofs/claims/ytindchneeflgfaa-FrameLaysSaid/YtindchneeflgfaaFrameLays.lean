/-
  The law FrameLays returns true at every input. No condition.
-/
import Derived.Test.YtindchneeflgfaaFrX
import Derived.Test.YtindchneeflgfaaFrAwake
import Derived.Test.YtindchneeflgfaaLaw
namespace Go.Proofs.Ytindchneeflgfaa.frameLays
open Go.ChangeShapes Go.WideShapes Go.ChangeAt Go.RowKit Go.Shelf
open Go.Proofs.Ytindchneeflgfaa
open Vi

theorem walk_long (x : Int) (l : List UInt8) (hl : l.length ≤ 9223372036854775807) (h : 3000 < l.length ∨ 1073741824 < x) (w : World) :
    Calls Try.prog 3 #[.int .i64 x, .string (bs l)] w fun e w' => e = .returned (.bool true) ∧ Below w.heap.size w w' := by
  have hbz := bs_size
  by_cases h1 : 3000 < l.length
  · clear h
    go_enter Try.func3, Try.ntmps3
    go_wp2_with (first
      | (go_at_call 6; (with_reducible refine (awake_any _).mono ?_); rintro e w1 ⟨rfl, hb1⟩))
    go_ret
    exact ⟨rfl, hb1⟩
  · have h2 : 1073741824 < x := by omega
    clear h
    go_enter Try.func3, Try.ntmps3
    go_wp2_with (first
      | (go_at_call 6; (with_reducible refine (awake_any _).mono ?_); rintro e w1 ⟨rfl, hb1⟩))
    go_ret
    exact ⟨rfl, hb1⟩
set_option maxRecDepth 100000 in
set_option maxHeartbeats 1000000 in
theorem walk_main (x : Int) (hx : -9223372036854775808 ≤ x) (hx2 : x ≤ 1073741824) (l : List UInt8) (hl : l.length ≤ 3000) (w : World) :
    Calls Try.prog 3 #[.int .i64 x, .string (bs l)] w fun e w' => e = .returned (.bool true) ∧ Below w.heap.size w w' := by
  have hbz := bs_size
  have hbl := bs_list
  have d1 : decide (3000 < (l.length : Int)) = false := by rw [decide_eq_false_iff_not]; omega
  have d2 : decide (1073741824 < x) = false := by rw [decide_eq_false_iff_not]; omega
  have LY := Lib.hid (fun W => flay_any x hx (by omega) l (by omega) W)
  have RY := Lib.hid (fun W => refLay_any x hx2 l hl W)
  have LN := Lib.hid (fun W => flen_any x hx (by omega) l.length (by omega) W)
  rw [← lay_len] at LN
  have hyl : (lay x.toNat l).length ≤ 100000 := by
    rw [lay_len]
    have := gapOf_le x.toNat
    omega
  generalize lay x.toNat l = Y at *
  go_enter Try.func3, Try.ntmps3
  go_wp2_with (first
    | (go_at_call 6; (with_reducible refine (awake_any _).mono ?_); rintro e w1 ⟨rfl, hb1⟩; have HB1 := Lib.hid hb1; clear hb1)
    | (go_at_call 7; (with_reducible refine (LY.out _).mono ?_); rintro e w2 ⟨rfl, hb2⟩; have HB2 := Lib.hid (HB1.out.trans (hb2.mono HB1.out.size)); clear hb2)
    | (go_at_call 9; (with_reducible refine (LN.out _).mono ?_); rintro e w4 ⟨rfl, rfl⟩)
    | (go_at_call 8; first
        | (have Z := HB3; (with_reducible refine (RY.out _).mono ?_); rintro e w5 ⟨rfl, hb5⟩; have HB5 := Lib.hid (HB3.out.trans (hb5.mono HB3.out.size)); clear hb5)
        | ((with_reducible refine (RY.out _).mono ?_); rintro e w3 ⟨rfl, hb3⟩; have HB3 := Lib.hid (HB2.out.trans (hb3.mono HB2.out.size)); clear hb3)))
  go_ret
  exact ⟨rfl, HB5.out⟩
theorem walk (x : Int) (hx : -9223372036854775808 ≤ x) (s : ByteArray) (hs : s.size ≤ 9223372036854775807) (w : World) :
    Calls Try.prog 3 #[.int .i64 x, .string s] w fun e w' => e = .returned (.bool true) ∧ Below w.heap.size w w' := by
  obtain ⟨l, rfl⟩ : ∃ l, s = bs l := ⟨s.data.toList, (bs_of s).symm⟩
  rw [bs_size] at hs
  by_cases h : 3000 < l.length ∨ 1073741824 < x
  · exact walk_long x l hs h w
  · exact walk_main x hx (by omega) l (by omega) w

set_option maxRecDepth 100000 in
theorem lifted (os : Os) (started : os.Started) (H : Type) (enc : TypeId × Value → H) :
    ReturnsInHanded {} Try.checked os 3 .any (Rows.frameLaysSpec.pre6 enc Try.prog Try.f3 Rows.frameLaysRow.domain false) (Rows.frameLaysSpec.post enc Try.prog Try.f3 false true false false) := by
  refine returnsInHanded_of_change (C := Try.checked) own started (by kernel_rfl) Try.func3
    (ChangeSpec.witness6 (enc := enc) (C := Try.checked) false ⟨#[], #[.int .i64 0, .string ⟨#[]⟩], []⟩ 8 (by kernel_rfl) (by kernel_rfl) (by kernel_rfl) (by kernel_rfl)) ?_
  intro W base args ds gs before hval0 hW hcnd _
  have hval : ∀ (j : Nat) t v, Try.f3.params[j]? = some t → args[j]? = some v → Value.okWide Try.prog W .any base t v := hval0
  have hW' := hW
  obtain ⟨p, q, hA0, hV, rfl, hfz, hnd⟩ := hW
  have hA : DataW.TrodAll enc Try.prog W 0 (fun _ => true) true Try.f3.params.toList args.toList ds p := hA0
  rw [Try.params3] at hA hval
  obtain ⟨v0, vs0, d0, ds0, p0, q0, hargs, rfl, rfl, h0, r0⟩ := trodAll_cons hA
  obtain ⟨v1, vs1, d1, ds1, p1, q1, rfl, rfl, rfl, h1, r1⟩ := trodAll_cons r0
  obtain ⟨rfl, rfl, rfl⟩ := trodAll_nil r1
  obtain rfl : args = #[v0, v1] := by cases args; simp_all
  obtain ⟨x, rfl, rfl, rfl, w1⟩ := open_int Try.underlying3 (hval 0 3 v0 rfl rfl) h0
  obtain ⟨s, rfl, rfl, rfl, hs⟩ := Go.ChangeMaps.open_string Try.underlying9 (hval 1 9 v1 rfl rfl) h1
  obtain ⟨hx1, hx2⟩ := i64_bd w1
  refine (walk x hx1 s hs W).mono fun e W' ⟨he, hb⟩ => ?_
  exact ⟨_, he, post_law hW' rfl rfl rfl (by rw [Try.params3]; decide +kernel) hb⟩

theorem proved : Rows.FrameLaysSaid :=
  OpenClaim.holds_of_wide 3 Try.f3 rfl rfl rfl rfl rfl rfl rfl ⟨rfl, rfl, rfl, rfl, rfl⟩ rfl rfl rfl rfl rfl (by kernel_rfl) Try.func3 (by kernel_rfl)
    (of_decide_eq_true (by kernel_rfl)) (by unfold Func.isWrapper; first | (rw [if_pos (by decide +kernel)]; kernel_rfl) | (rw [if_neg (by decide +kernel)]; exact ⟨rfl, rfl⟩))
    (fun os started H enc _ => lifted os started H enc)
#print axioms proved
end Go.Proofs.Ytindchneeflgfaa.frameLays
