/-
  The Go text that reads numbers, walked: the reader in memory, and what it tells without a change; the number that bytes begin with. Conditions: as each theorem states.
-/
import Derived.Test.YtgpifihghklgfaaViC
import Derived.Deep.QuietTactic
import Derived.BigQuiet
import Derived.BigRegion
import Derived.StillTailTactics
import Derived.Deep.RegionHeld3
import Derived.Laws.Rows
import Derived.Maps.OwnSet
import Derived.Maps.AppendAt
namespace Go.Proofs.Ytgpifihghklgfaa
open Go.RowKit
open Vi

theorem len_any (n : Nat) (hn : n < 18446744073709551616) (w : World) :
    Calls Try.prog 18 #[.int .u64 n] w fun e w' => e = .returned (.int .i64 (vnum n).length) ∧ w = w' := by
  have hor : bits .or .u64 (n : Int) 1 = ((n ||| 1 : Nat) : Int) := u64_or_nat n 1 hn (by decide)
  have hlt : n ||| 1 < 18446744073709551616 := by rw [or1]; omega
  have hle : (vnum n).length ≤ 10 := vnum_len10 hn
  obtain ⟨b, hb⟩ : ∃ b, b = Lib.bitLen (n ||| 1) := ⟨_, rfl⟩
  have hv := len_vnum n hn
  rw [← hb] at hv
  have HB := Lib.hid hb
  have HV := Lib.hid hv
  have hb70 : b ≤ 70 := by omega
  clear hb hv
  go_enter Try.func18, Try.ntmps18
  go_wp2_with (go_at_call 39; refine (Try.bits_Len64 _ _ (by omega) (by omega)).mono ?_; rintro e w' ⟨rfl, rfl⟩; simp only [Int.toNat_natCast, ← HB.out])
  go_ret
  exact ⟨ret_int (by rw [← HV.out]; omega), rfl⟩

/-! a reader in memory -/
def RdAt (t : TypeId) (w : World) (a : Nat) (s : ByteArray) (at_ : Nat) (err : Int) : Prop :=
  w.heap[a]? = some (.cells #[.string s, .int .i64 at_, .int .i64 err] t (0, 0))
theorem cell_in {w : World} {g : Nat} {c : Array Value} {t : TypeId} (h : w.heap[g]? = some (.cells c t (0, 0))) (j : Nat) (v : Value) (hj : c[j]? = some v) :
    w.cell? ⟨g, j, none⟩ = some v := by rw [cell_of_row w g j c t (0, 0) h]; exact hj
theorem free_in {w : World} {g : Nat} {c : Array Value} {t : TypeId} (h : w.heap[g]? = some (.cells c t (0, 0))) (j : Nat) : w.frozen? ⟨g, j, none⟩ = false := by
  simp [World.frozen?, h]
theorem heap_set {w : World} {g : Nat} {c : Array Value} {t : TypeId} {fr : Nat × Nat} (h : w.heap[g]? = some (.cells c t fr)) (j : Nat) (v : Value) :
    (w.setCell ⟨g, j, none⟩ v).heap[g]? = some (.cells (c.setIfInBounds j v) t fr) := by
  simp only [World.setCell, Array.getElem?_modify, if_true, h]
  rfl
theorem grown_set (w : World) (g j : Nat) (v : Value) : w.grownBy (w.setCell ⟨g, j, none⟩ v) (some g) :=
  ⟨rfl, rfl, rfl, by simp [World.setCell], fun k _ hk => Below.heap_setCell w ⟨g, j, none⟩ v k (fun e => hk (by rw [e]))⟩
theorem grown_drewN (w : World) (n : Nat) (row : Option Nat) : w.grownBy (w.drewN n) row := ⟨rfl, rfl, rfl, Nat.le_refl _, fun _ _ _ => rfl⟩
theorem grown_below {w w' : World} (h : Below w.heap.size w w') (row : Option Nat) : w.grownBy w' row := ⟨h.os, h.tape, h.output, h.size, fun i hi _ => h.block i hi⟩
section
variable {t : TypeId} {w : World} {a : Nat} {s : ByteArray} {at_ : Nat} {err : Int}
theorem rd0 (h : RdAt t w a s at_ err) : w.cell? ⟨a, 0, none⟩ = some (.string s) := cell_in h 0 _ rfl
theorem rd1 (h : RdAt t w a s at_ err) : w.cell? ⟨a, 1, none⟩ = some (.int .i64 at_) := cell_in h 1 _ rfl
theorem rd2 (h : RdAt t w a s at_ err) : w.cell? ⟨a, 2, none⟩ = some (.int .i64 err) := cell_in h 2 _ rfl
theorem rd_lt (h : RdAt t w a s at_ err) : a < w.heap.size := (Array.getElem?_eq_some_iff.1 h).1
theorem rd_drewN (h : RdAt t w a s at_ err) (n : Nat) : RdAt t (w.drewN n) a s at_ err := h
theorem rd_kept {w' : World} {row : Option Nat} (h : RdAt t w a s at_ err) (hg : w.grownBy w' row) (hne : some a ≠ row) : RdAt t w' a s at_ err := by
  unfold RdAt; rw [hg.block a (rd_lt h) hne]; exact h
end

theorem over_any (s : ByteArray) (w : World) :
    Calls Try.prog 19 #[.string s] w fun e w' => e = .returned (.pointer (some ⟨w.heap.size, 0, none⟩)) ∧ RdAt 56 w' w.heap.size s 0 0 ∧ Below w.heap.size w w' := by
  go_enter Try.func19, Try.ntmps19
  go_wp2
  go_ret
  exact ⟨rfl, heap_alloc_new _ _, (Below.refl _ _).alloc (Nat.le_refl _) _⟩

theorem err_nil (w : World) : Calls Try.prog 37 #[.pointer none] w fun e w' => e = .returned (.int .i64 1) ∧ w = w' := by
  go_enter Try.func37, Try.ntmps37
  go_wp2
  go_ret
  exact ⟨rfl, rfl⟩
theorem err_any {w : World} {a : Nat} {s : ByteArray} {at_ : Nat} {err : Int} (h : RdAt 56 w a s at_ err) :
    Calls Try.prog 37 #[.pointer (some ⟨a, 0, none⟩)] w fun e w' => e = .returned (.int .i64 err) ∧ w = w' := by
  have c2 := rd2 h
  go_enter Try.func37, Try.ntmps37
  go_wp2
  go_ret
  exact ⟨rfl, rfl⟩
theorem at_nil (w : World) : Calls Try.prog 35 #[.pointer none] w fun e w' => e = .returned (.int .i64 0) ∧ w = w' := by
  go_enter Try.func35, Try.ntmps35
  go_wp2
  go_ret
  exact ⟨rfl, rfl⟩
theorem at_any {w : World} {a : Nat} {s : ByteArray} {at_ : Nat} {err : Int} (h : RdAt 56 w a s at_ err) :
    Calls Try.prog 35 #[.pointer (some ⟨a, 0, none⟩)] w fun e w' => e = .returned (.int .i64 at_) ∧ w = w' := by
  have c1 := rd1 h
  go_enter Try.func35, Try.ntmps35
  go_wp2
  go_ret
  exact ⟨rfl, rfl⟩
theorem left_nil (w : World) : Calls Try.prog 36 #[.pointer none] w fun e w' => e = .returned (.int .i64 0) ∧ w = w' := by
  go_enter Try.func36, Try.ntmps36
  go_wp2
  go_ret
  exact ⟨rfl, rfl⟩
theorem left_any {w : World} {a : Nat} {s : ByteArray} {at_ : Nat} {err : Int} (h : RdAt 56 w a s at_ err) (hs : s.size ≤ 1000000) (ha : at_ ≤ s.size) :
    Calls Try.prog 36 #[.pointer (some ⟨a, 0, none⟩)] w fun e w' => e = .returned (.int .i64 ((s.size : Int) - at_)) ∧ ∃ k, w' = w.drewN k := by
  have c0 := rd0 h
  have c1 := rd1 h
  go_enter Try.func36, Try.ntmps36
  go_wp2
  go_quiet (fail)
  go_wp2
  go_ret
  exact ⟨rfl, _, rfl⟩
end Go.Proofs.Ytgpifihghklgfaa
