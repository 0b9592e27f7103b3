/-
  A zero edit in a box. Conditions: as each theorem states.
-/
import Derived.Test.YtomokbcamfmfcaaDoorEdM
namespace Go.Proofs.YtomokbcamfmfcaaDoor.Ed
open Go.RowKit
open Go.Proofs.YtomokbcamfmfcaaDoor
open Vi Ba

abbrev eObj0 (va vg : Value) : Obj := .cells #[.int .u64 0, .int .u64 0, .int .u64 0, va, vg] 31 (0, 0)
theorem none_val (A G : Option Addr) (c d : Nat) : Edt.none.val A c G d = .agg #[.int .u64 0, .int .u64 0, .int .u64 0, .slice A 0 c, .slice G 0 d] := rfl
theorem none_same (W : World) (Ax Gx : Option Addr) (cx dx : Nat) (h : Lies W Edt.none Ax Gx) : Calls Tryd.prog 14 #[.agg #[.int .u64 0, .int .u64 0, .int .u64 0, .slice Ax 0 cx, .slice Gx 0 dx], .agg #[.int .u64 0, .int .u64 0, .int .u64 0, .slice none 0 0, .slice none 0 0]] W (BoPost W true) := by
  rw [← none_val Ax Gx cx dx, ← none_val none none 0 0]
  exact same_yes h (lies_none W) (Nat.zero_le _) (Nat.zero_le _)
theorem none_bytes (W : World) (Ax Gx : Option Addr) (cx dx : Nat) (h : Lies W Edt.none Ax Gx) : Calls Tryd.prog 12 #[.agg #[.int .u64 0, .int .u64 0, .int .u64 0, .slice Ax 0 cx, .slice Gx 0 dx]] W (EbPost W (eb Edt.none) 0) := by
  rw [← none_val Ax Gx cx dx]
  exact ebytes_ok cx dx h (show chkE Edt.none = 0 by decide)
theorem none_parse {s : ByteArray} {err : Int} (W : World) (h : Calls Tryd.prog 13 #[.string s] W (PrPost W Edt.none err)) : Calls Tryd.prog 13 #[.string s] W fun e w' => ∃ A c G d, e = .returned (.tuple #[.agg #[.int .u64 0, .int .u64 0, .int .u64 0, .slice A 0 c, .slice G 0 d], .int .i64 err]) ∧ Lies w' Edt.none A G ∧ Below W.heap.size W w' := by
  refine h.mono ?_
  rintro e w' ⟨A, c, G, d, h1, h2, h3⟩
  rw [none_val] at h1
  exact ⟨A, c, G, d, h1, h2, h3⟩
end Go.Proofs.YtomokbcamfmfcaaDoor.Ed
