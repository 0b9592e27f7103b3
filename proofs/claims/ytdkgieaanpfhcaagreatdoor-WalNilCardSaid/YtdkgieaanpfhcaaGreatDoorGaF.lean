/-
  Several texts in one: WfA, FrA, WfR, FrR. Conditions: as each theorem states.
-/
import Derived.Test.YtdkgieaanpfhcaaGreatDoorBaR
import Derived.Laws.IdiomStrings
import Derived.Lib.BufSteps
import Derived.Lib.Hide
import Derived.Lib.SmallJoins
import Derived.Lib.Strings
import Derived.OpenShut
import Derived.Outline
import Derived.ProofKit
import Derived.ScopeJumps
import Derived.WalkKit
import Derived.WalkMore
import Derived.BigQuiet
import Derived.BigRegion
import Derived.Deep.QuietTactic
import Derived.Deep.RegionHeld3
import Derived.Laws.Rows
import Derived.Maps.AppendAt
import Derived.Maps.OwnSet
import Derived.StillTailTactics
namespace Go.Proofs.YtdkgieaanpfhcaaGreatDoor
open Go.RowKit
open Vi

set_option maxHeartbeats 1000000 in
theorem refLittle_any (n k : Nat) (hn : n < 18446744073709551616) (hk : k ≤ 8) (w : World) :
    Calls Tryz.prog 84 #[.int .u64 n, .int .i64 k] w fun e w' => e = .returned (.string (bs (little k n))) ∧ Below w.heap.size w w' := by
  go_enter Tryz.func84, Tryz.ntmps84
  go_wp2
  go_loopw [0, 5, 6] (fun x s i wr => ∃ (m : Nat) (l : List UInt8), l ++ little (k - l.length) m = little k n ∧ l.length ≤ k ∧ m ≤ n ∧ x = .int .u64 m ∧ s = .string (bs l) ∧ i = .int .i64 l.length ∧ Below w.heap.size w wr) (fun _ _ i _ => k - (intOf i).toNat)
  case atStart => exact ⟨n, [], rfl, by simp, Nat.le_refl _, rfl, rfl, rfl, Below.refl _ _⟩
  case round =>
    obtain ⟨m, l, hl, hlk, hm, rfl, rfl, rfl, hb⟩ := hrel
    have HL := Lib.hid hl
    clear hl
    have hob := one_byte
    have hbz := bs_size
    have hba := bs_append
    by_cases hs : l.length < k
    · go_wp2
      go_roundw
      case rel => exact ⟨m / 256, l ++ [UInt8.ofNat (m % 256)], by
        rw [← HL.out, show k - l.length = (k - (l.length + 1)) + 1 by omega, little_succ]; simp, by simp; omega, by omega, by rw [show (m : Int) / 256 = ((m / 256 : Nat) : Int) by omega], by first | rfl | simp, by simp, hb.alloc hb.size _⟩
      case measure => simp [intOf]; omega
    · go_wp2
      go_ret
      exact ⟨ret_str (by rw [← HL.out, show k - l.length = 0 by omega, little_zero, List.append_nil]), hb⟩
theorem refLittle_at {x y : Int} {n k : Nat} (hx : x = n) (hy : y = k) (hn : n < 18446744073709551616) (hk : k ≤ 8) (w : World) :
    Calls Tryz.prog 84 #[.int .u64 x, .int .i64 y] w fun e w' => e = .returned (.string (bs (little k n))) ∧ Below w.heap.size w w' := by
  subst hx hy; exact refLittle_any n k hn hk w
theorem fixed_any (n : Nat) (hn : n < 4294967296) (w : World) :
    Calls Tryz.prog 109 #[.int .u32 n] w fun e w' => e = .returned (.string (bs (little 4 n))) ∧ Below w.heap.size w w' := by
  go_enter Tryz.func109, Tryz.ntmps109
  go_wp2_with (go_at_call 107; refine (lay_at (n := n) (k := 4) (by omega) (by omega) (by omega) (by omega) (by omega) _).mono ?_; rintro e w' ⟨rfl, hb⟩)
  go_ret
  exact ⟨rfl, hb⟩
theorem fixed_at {x : Int} {n : Nat} (hx : x = n) (hn : n < 4294967296) (w : World) :
    Calls Tryz.prog 109 #[.int .u32 x] w fun e w' => e = .returned (.string (bs (little 4 n))) ∧ Below w.heap.size w w' := by
  subst hx; exact fixed_any n hn w
end Go.Proofs.YtdkgieaanpfhcaaGreatDoor
namespace Go.Proofs.YtdkgieaanpfhcaaGreatDoor
end Go.Proofs.YtdkgieaanpfhcaaGreatDoor
namespace Go.Proofs.YtdkgieaanpfhcaaGreatDoor
open Go.RowKit
open Vi

theorem at_any {w : World} {a : Nat} {s : ByteArray} {at_ : Nat} {err : Int} (h : RdAt 149 w a s at_ err) :
    Calls Tryz.prog 134 #[.pointer (some ⟨a, 0, none⟩)] w fun e w' => e = .returned (.int .i64 at_) ∧ w = w' := by
  have c1 := rd1 h
  go_enter Tryz.func134, Tryz.ntmps134
  go_wp2
  go_ret
  exact ⟨rfl, rfl⟩
theorem rfixed_any {w : World} {a : Nat} {s : ByteArray} {at_ : Nat} {err : Int} (h : RdAt 149 w a s at_ err) (hs : s.size ≤ 1000000) (ha : at_ ≤ s.size) :
    Calls Tryz.prog 132 #[.pointer (some ⟨a, 0, none⟩)] w (RdPost 149 w a s (.int .u32 (big (dTake s.data.toList at_ err 4).1)) (dTake s.data.toList at_ err 4).2) := by
  have hl := dTake_small (l := s.data.toList) (at_ := at_) (err := err) (n := 4) (by omega)
  have hl4 : big (dTake s.data.toList at_ err 4).1 < 4294967296 := by
    refine Nat.lt_of_lt_of_le (big_lt _) (Nat.le_trans (Nat.pow_le_pow_right (by decide) (show _ ≤ 4 from ?_)) (by decide))
    by_cases he : err = 0
    · subst he
      by_cases h2 : (4 : Int) < 0 ∨ (s.data.toList.length : Int) - at_ < 4
      · rw [dTake_short h2]; simp
      · rw [dTake_ok (by omega) (by omega)]; simp; omega
    · rw [dTake_bad he]; simp
  have HC := cut_any 4 h hs ha
  generalize dTake s.data.toList at_ err 4 = r at hl hl4 HC ⊢
  obtain ⟨l2, at2, err2⟩ := r
  have HC := Lib.hid HC
  clear h
  go_enter Tryz.func132, Tryz.ntmps132
  go_wp2_with (first
    | (go_at_call 97; refine HC.out.mono ?_; rintro e w1 ⟨rfl, h1, g1⟩; have H1 := Lib.hid h1; clear h1)
    | (go_at_call 96; refine (gather_at (l := l2) rfl hl _).mono ?_; rintro e w' ⟨rfl, rfl⟩))
  go_ret
  exact ⟨rfl, H1.out, g1⟩
end Go.Proofs.YtdkgieaanpfhcaaGreatDoor
namespace Go.Proofs.YtdkgieaanpfhcaaGreatDoor
end Go.Proofs.YtdkgieaanpfhcaaGreatDoor
