/-
  The examples of the law's package on edits: the Go text walked. Conditions: as each theorem states.
-/
import Derived.Test.YtkocekogkpemiaaDoorEdI
namespace Go.Proofs.YtkocekogkpemiaaDoor.Ed
open Go.RowKit
open Go.Proofs.YtkocekogkpemiaaDoor
open Vi Ba

def BoPost (w : World) (b : Bool) (e : Ending) (w' : World) : Prop := e = .returned (.bool b) ∧ Below w.heap.size w w'
theorem eb_none : eb Edt.none = [0, 0, 0, 0, 0] := by
  have h : vnum 0 = [0] := vnum_small (by decide)
  unfold eb Edt.none
  simp [vn, h]
theorem bytes_none (w : World) : Calls Tryd.prog 36 #[.agg #[.int .u64 0, .int .u64 0, .int .u64 0, .slice none 0 0, .slice none 0 0]] w fun e w' => e = .returned (.tuple #[.string (bs [0, 0, 0, 0, 0]), .int .i64 0]) ∧ Below w.heap.size w w' := by
  have := ebytes_ok 0 0 (lies_none w) (show chkE Edt.none = 0 by decide)
  rw [eb_none] at this
  exact this
theorem parse_none (w : World) : Calls Tryd.prog 37 #[.string (bs [0, 0, 0, 0, 0])] w fun e w' => (∃ A c G d, e = .returned (.tuple #[.agg #[.int .u64 0, .int .u64 0, .int .u64 0, .slice A 0 c, .slice G 0 d], .int .i64 0])) ∧ Below w.heap.size w w' := by
  have hp : parse (bs [0, 0, 0, 0, 0]).data.toList = (Edt.none, 0) := by
    rw [bs_toList, ← eb_none]; exact parse_eb none_ok (by decide)
  refine (eparse_any (bs [0, 0, 0, 0, 0]) (by rw [bs_size]; decide) w).mono ?_
  rintro e w' ⟨A, c, G, d, h1, _, h2⟩
  rw [hp] at h1
  exact ⟨⟨A, c, G, d, h1⟩, h2⟩
theorem name_seven (w : World) (h : Tab w) : Calls Tryd.prog 38 #[.string ⟨#[116]⟩, .int .u64 7] w (SPost w [116, 45, 55]) := by
  have := name_any [116] (by decide) 7 (by decide) w h
  have e : nm [116] 7 = [116, 45, 55] := by
    unfold nm; rw [Go.Lib.decDigits_one (by decide)]; rfl
  rw [e] at this
  exact this
theorem awake_any (w : World) (h : Tab w) : Calls Tryd.prog 26 #[] w (BoPost w true) := by
  have HB := Lib.hid bytes_none
  have HP := Lib.hid parse_none
  have HN := Lib.hid name_seven
  replace h := Lib.hid h
  have hbl := bs_list
  go_enter Tryd.func26, Tryd.ntmps26
  go_wp2_with (first
    | (go_at_call 36; (with_reducible refine (HB.out _).mono ?_); rintro e w2 ⟨rfl, hb2⟩; have B2 := Lib.hid hb2; clear hb2)
    | (go_at_call 37; (with_reducible refine (HP.out _).mono ?_); rintro e w3 ⟨⟨A, c, G, d, rfl⟩, hb3⟩; have B3 := Lib.hid ((B2.out.trans (hb3.mono B2.out.size)).alloc (Nat.le_trans B2.out.size hb3.size) (.cells #[.int .u64 0, .int .u64 0, .int .u64 0, .slice A 0 c, .slice G 0 d] 49 (0, 0))); clear hb3)
    | (go_at_call 38; (with_reducible refine (HN.out _ (h.out.on B3.out)).mono ?_); rintro e w4 ⟨rfl, hb4⟩))
  go_ret
  exact ⟨rfl, B3.out.trans (hb4.mono B3.out.size)⟩
end Go.Proofs.YtkocekogkpemiaaDoor.Ed
