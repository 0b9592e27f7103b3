/-
  The document's reader, walked: Little. Conditions: as each theorem states.
-/
import Derived.Test.YtdkgieaanpfhcaaGreatDoorEdW
import Derived.BigQuiet
import Derived.BigRegion
import Derived.Deep.QuietTactic
import Derived.Deep.RegionHeld3
import Derived.Laws.IdiomStrings
import Derived.Laws.Rows
import Derived.Lib.BufSteps
import Derived.Lib.Hide
import Derived.Lib.SmallJoins
import Derived.Lib.Strings
import Derived.Maps.AppendAt
import Derived.Maps.OwnSet
import Derived.OpenShut
import Derived.Outline
import Derived.ProofKit
import Derived.ScopeJumps
import Derived.StillTailTactics
import Derived.WalkKit
import Derived.WalkMore
namespace Go.Proofs.YtdkgieaanpfhcaaGreatDoor
open Go.RowKit
open Vi

set_option maxRecDepth 100000 in
theorem qlittle_any {w : World} {a : Nat} {s : ByteArray} {at_ : Nat} {err : Int} (k : Nat) (hk : k ≤ 8) (h : RdAt 103 w a s at_ err) (hs : s.size ≤ 1000000) (ha : at_ ≤ s.size) :
    Calls Tryz.prog 50 #[.pointer (some ⟨a, 0, none⟩), .int .i64 k] w (RdPost 103 w a s (.int .u64 (big (dTake s.data.toList at_ err k).1)) (dTake s.data.toList at_ err k).2) := by
  have hl := dTake_small (l := s.data.toList) (at_ := at_) (err := err) (n := (k : Int)) (by omega)
  have HC := qtake_any (k : Int) h hs ha
  generalize dTake s.data.toList at_ err (k : Int) = r at hl HC ⊢
  obtain ⟨l, at2, err2⟩ := r
  obtain ⟨t, rfl⟩ : ∃ t : ByteArray, l = t.data.toList := ⟨bs l, (bs_toList l).symm⟩
  rw [bs_of] at HC
  have ht : t.size ≤ 8 := hl
  have HC := Lib.hid HC
  clear h hl
  go_enter Tryz.func50, Tryz.ntmps50
  go_wp2_with (first
    | (go_at_call 94; refine HC.out.mono ?_; rintro e w1 ⟨rfl, h1, g1⟩; have H1 := Lib.hid h1; clear h1))
  go_loop [6, 7] (fun x i => ∃ (j n : Nat), j ≤ t.size ∧ n = big (t.data.toList.drop j) ∧ x = .int .u64 n ∧ i = .int .i64 ((j : Int) - 1)) (fun _ i => (intOf i + 1).toNat)
  case atStart => exact ⟨t.size, 0, Nat.le_refl _, by rw [drop_all, big_nil], rfl, rfl⟩
  case round =>
    obtain ⟨j, n, hj, hn, rfl, rfl⟩ := hrel
    have HN := Lib.hid hn
    clear hn
    by_cases h0 : j = 0
    · subst h0
      go_wp2
      go_ret
      exact ⟨ret_int (by rw [HN.out]; rfl), H1.out, g1⟩
    · obtain ⟨i, rfl⟩ : ∃ i, j = i + 1 := ⟨j - 1, by omega⟩
      have hlt : n < 72057594037927936 := by rw [HN.out]; exact big_drop_lt ht (by omega)
      have hi : i < t.size := by omega
      go_wp2
      go_round
      case rel => exact ⟨i, t[i].toNat + 256 * n, by omega, by rw [big_drop t i hi, ← HN.out], val_int (by
        have hc := t[i].toNat_lt
        rw [wrap_byte, IntKind.wrap_u64]; omega), rfl⟩
      case measure => simp [intOf]
end Go.Proofs.YtdkgieaanpfhcaaGreatDoor
