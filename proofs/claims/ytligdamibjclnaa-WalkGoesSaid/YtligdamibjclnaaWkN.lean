/-
  The law WalkGoes at more than 100 trades. Conditions: as each theorem states.
-/
import Derived.Test.YtligdamibjclnaaWkL
namespace Go.Proofs.Ytligdamibjclnaa.Wk
open Go.RowKit Go.Shelf
open Go.Proofs.Ytligdamibjclnaa
open Se Fl
attribute [local go_sem] run_store_float run_store_complex

theorem goes_long (A : Option Addr) (c : Nat) (l : List Trd) (m : Nat) (hl : ¬ l.length ≤ 100) (w : World) (RA : TRow w A l) :
    Calls Try.prog 3 #[.slice A l.length c, .int .u8 m] w fun e w' => e = .returned (.bool true) ∧ Below w.heap.size w w' := by
  have hl' : (100 : Int) < (l.length : Int) := by omega
  have G0 := Lib.hid (gl_start (c := c) (m := m) RA)
  clear RA
  go_enter Try.func3, Try.ntmps3
  go_wp2_with (go_at_call 6; (with_reducible refine (awake34_any _).mono ?_); rintro e w1 ⟨rfl, hb1⟩; have G1 := Lib.hid (G0.out.on hb1); clear hb1 G0; have x2 := (cell1 G1.out.lb).1; obtain ⟨x4, f4⟩ := cell1 G1.out.rb)
  have HB := G1.out.below
  refine bodyPost_ret (v := .bool true) ?_ rfl ⟨rfl, HB.setCell (p := ⟨w.heap.size + 1 + 1, 0, none⟩) (by simp; omega) _⟩
  simp [results, Try.results3, go_sem, x4, f4]
end Go.Proofs.Ytligdamibjclnaa.Wk
