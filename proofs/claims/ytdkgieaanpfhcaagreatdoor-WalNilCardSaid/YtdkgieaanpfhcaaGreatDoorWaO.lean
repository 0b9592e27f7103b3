/-
  A log that is none: what its calls answer. Conditions: as each theorem states.
-/
import Derived.Test.YtdkgieaanpfhcaaGreatDoorWaJ
import Derived.Test.YtdkgieaanpfhcaaGreatDoorGaDk
namespace Go.Proofs.YtdkgieaanpfhcaaGreatDoor.Wa
open Go.RowKit Go.Shelf
open Go.Proofs.YtdkgieaanpfhcaaGreatDoor
open Vi Ba

theorem len64_0 (w : World) : Calls Tryz.prog 130 #[.int .u64 0] w fun r w' => r = .returned (.int .i64 0) ∧ w = w' := by
  go_enter Tryz.func130, Tryz.ntmps130
  go_wp2
  go_ret
  refine ⟨?_, rfl⟩
  show Ending.returned (.int .i64 (wrap64 (wrap64 (Lib.len8 0)))) = _
  rw [show wrap64 (wrap64 (Lib.len8 0)) = 0 by decide +kernel]
theorem len_0 (w : World) : Calls Tryz.prog 92 #[.int .u64 0] w fun r w' => r = .returned (.int .i64 0) ∧ w = w' := by
  go_enter Tryz.func92, Tryz.ntmps92
  go_wp2_with (go_at_call 130; (refine (len64_0 _).mono ?_); rintro r w1 ⟨rfl, rfl⟩)
  go_ret
  exact ⟨rfl, rfl⟩
theorem ins_0 (v : Value) (w : World) : Calls Tryz.prog 120 #[v, .int .i64 0, .int .i64 0] w fun r w' => (∃ x, r = .returned x) ∧ w = w' := by
  go_enter Tryz.func120, Tryz.ntmps120
  go_wp2
  go_loopw [6] (fun i wr => i = .int .i64 1 ∧ wr = w) (fun _ _ => 0)
  case atStart => exact ⟨rfl, rfl⟩
  case round =>
    obtain ⟨rfl, rfl⟩ := hrel
    go_wp2
    first | go_end0 | refine bodyPost_ret (results_none rfl _ _ _) rfl ?_
    exact ⟨⟨_, rfl⟩, rfl⟩
theorem pdq_0 (v : Value) (w : World) : Calls Tryz.prog 91 #[v, .int .i64 0, .int .i64 0, .int .i64 0] w fun r w' => (∃ x, r = .returned x) ∧ w = w' := by
  go_enter Tryz.func91, Tryz.ntmps91
  go_wp2
  go_loopw [1, 2, 3, 8] (fun a b c i wr => a = .int .i64 0 ∧ b = .int .i64 0 ∧ c = .int .i64 0 ∧ i = .bool true ∧ wr = w) (fun _ _ _ _ _ => 0)
  case atStart => exact ⟨rfl, rfl, rfl, rfl, rfl⟩
  case round =>
    obtain ⟨rfl, rfl, rfl, rfl, rfl⟩ := hrel
    go_wp2_with (go_at_call 120; (refine (ins_0 _ _).mono ?_); rintro r w1 ⟨⟨x, rfl⟩, rfl⟩)
    first | go_end0 | refine bodyPost_ret (results_none rfl _ _ _) rfl ?_
    exact ⟨⟨_, rfl⟩, rfl⟩
theorem sort_0 (w : World) : Calls Tryz.prog 48 #[.slice none 0 0] w fun r w' => (∃ x, r = .returned x) ∧ w = w' := by
  go_enter Tryz.func48, Tryz.ntmps48
  go_wp2_with (first
    | (go_at_call 92; (refine (len_0 _).mono ?_); rintro r w1 ⟨rfl, rfl⟩)
    | (go_at_call 91; (refine (pdq_0 _ _).mono ?_); rintro r w1 ⟨⟨x, rfl⟩, rfl⟩))
  first | go_end0 | refine bodyPost_ret (results_none rfl _ _ _) rfl ?_
  exact ⟨⟨_, rfl⟩, rfl⟩
def NRel (w : World) (v i : Value) (wr : World) : Prop := v = .slice none 0 0 ∧ i = .int .i64 0 ∧ wr = w
set_option maxRecDepth 100000 in
theorem numbers_nil (w : World) : Calls Tryz.prog 26 #[.pointer none] w fun r w' => r = .returned (.slice none 0 0) ∧ w = w' := by
  go_enter Tryz.func26, Tryz.ntmps26
  go_wp2_with (go_at_call 40; (with_reducible refine (Dk.list_nil _).mono ?_); rintro r w1 ⟨rfl, rfl⟩)
  go_loopw [3, 11] (NRel w) (fun _ _ _ => 0)
  case atStart => exact ⟨rfl, rfl, rfl⟩
  case round =>
    obtain ⟨rfl, rfl, rfl⟩ := hrel
    go_wp2_with (go_at_call 48; (refine (sort_0 _).mono ?_); rintro r w1 ⟨⟨x, rfl⟩, rfl⟩)
    go_ret
    exact ⟨rfl, rfl⟩
theorem wname_nil (w : World) : Calls Tryz.prog 24 #[.pointer none] w fun r w' => r = .returned (.string ⟨#[]⟩) ∧ w = w' := by
  go_enter Tryz.func24, Tryz.ntmps24
  go_wp2
  go_ret
  exact ⟨rfl, rfl⟩
theorem wlen_nil (w : World) : Calls Tryz.prog 25 #[.pointer none] w fun r w' => r = .returned (.int .i64 0) ∧ w = w' := by
  go_enter Tryz.func25, Tryz.ntmps25
  go_wp2
  go_ret
  exact ⟨rfl, rfl⟩
theorem wbroken_nil (w : World) : Calls Tryz.prog 17 #[.pointer none] w fun r w' => r = .returned (.bool false) ∧ w = w' := by
  go_enter Tryz.func17, Tryz.ntmps17
  go_wp2
  go_ret
  exact ⟨rfl, rfl⟩
theorem wadd_nil (w : World) : Calls Tryz.prog 16 #[.pointer none, .agg #[.int .u64 0, .slice none 0 0]] w fun r w' => r = .returned (.int .i64 1) ∧ Below w.heap.size w w' := by
  go_enter Tryz.func16, Tryz.ntmps16
  go_wp2
  go_ret
  exact ⟨rfl, (Below.refl _ _).alloc (Nat.le_refl _) _⟩
end Go.Proofs.YtdkgieaanpfhcaaGreatDoor.Wa
