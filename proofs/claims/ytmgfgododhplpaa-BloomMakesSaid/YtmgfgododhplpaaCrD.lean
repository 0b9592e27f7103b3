/-
  The Go text of sums, walked, where masks aren't there. Conditions: as each theorem states.
-/
import Derived.Test.YtmgfgododhplpaaCrB
namespace Go.Proofs.Ytmgfgododhplpaa.Crc
open Go.RowKit

theorem inv32 {m : Nat} (h : m < 4294967296) : bits .xor .u32 IntKind.u32.max (m : Int) = ((neg32 m : Nat) : Int) := by
  have := u32_xor_nat 4294967295 m (by decide) h
  rw [neg_xor h] at this
  exact this
theorem stepped_at {x : Int} {n : Nat} (hx : x = n) (hn : n < 4294967296) (s : ByteArray) (hs : s.size ≤ maxLen) (w : World) :
    Calls Try.prog 21 #[.int .u32 x, .string s] w fun e w' => e = .returned (.int .u32 (run n s.data.toList)) ∧ w = w' := by
  subst hx; exact stepped_any n hn s hs w
theorem byTable_at {x : Int} {n : Nat} (hx : x = n) (hn : n < 4294967296) (s : ByteArray) (hs : s.size ≤ maxLen) (w : World) :
    Calls Try.prog 22 #[.int .u32 x, .string s] w fun e w' => e = .returned (.int .u32 (run n s.data.toList)) ∧ Below w.heap.size w w' := by
  subst hx; exact byTable_any n hn s hs w
set_option maxRecDepth 100000 in
theorem add_any (n : Nat) (hn : n < 4294967296) (s : ByteArray) (hs : s.size ≤ maxLen) (w : World) :
    Calls Try.prog 19 #[.int .u32 n, .string s] w fun e w' => e = .returned (.int .u32 (add n s.data.toList)) ∧ Below w.heap.size w w' := by
  have hM : Hid (s.size ≤ maxLen) := hs
  unfold maxLen at hs
  by_cases h : s.size < 256
  · go_enter Try.func19, Try.ntmps19
    go_wp2_with (go_at_call 21; refine (stepped_at (inv32 hn) (neg_lt n) s hM.out _).mono ?_; rintro e w' ⟨rfl, rfl⟩)
    go_ret
    exact ⟨ret_int (by rw [inv32 (run_lt _ (neg_lt n))]; rfl), Below.refl _ _⟩
  · have h' : 256 ≤ s.size := by omega
    go_enter Try.func19, Try.ntmps19
    go_wp2_with (go_at_call 22; refine (byTable_at (inv32 hn) (neg_lt n) s hM.out _).mono ?_; rintro e w' ⟨rfl, hb⟩)
    go_ret
    exact ⟨ret_int (by rw [inv32 (run_lt _ (neg_lt n))]; rfl), hb⟩
theorem of_any (s : ByteArray) (hs : s.size ≤ maxLen) (w : World) :
    Calls Try.prog 18 #[.string s] w fun e w' => e = .returned (.int .u32 (ofL s.data.toList)) ∧ Below w.heap.size w w' := by
  have hM : Hid (s.size ≤ maxLen) := hs
  clear hs
  go_enter Try.func18, Try.ntmps18
  go_wp2_with (go_at_call 19; refine (add_any 0 (by decide) s hM.out _).mono ?_; rintro e w' ⟨rfl, hb⟩)
  go_ret
  exact ⟨rfl, hb⟩
theorem refOf_any (s : ByteArray) (hs : s.size ≤ maxLen) (w : World) :
    Calls Try.prog 20 #[.string s] w fun e w' => e = .returned (.int .u32 (ofL s.data.toList)) ∧ w = w' := by
  have hM : Hid (s.size ≤ maxLen) := hs
  clear hs
  go_enter Try.func20, Try.ntmps20
  go_wp2_with (go_at_call 23; refine (refAdd_any 0 (by decide) s hM.out _).mono ?_; rintro e w' ⟨rfl, rfl⟩)
  go_ret
  exact ⟨rfl, rfl⟩
theorem ofL_lt (l : List UInt8) : ofL l < 4294967296 := add_lt _ _
end Go.Proofs.Ytmgfgododhplpaa.Crc
