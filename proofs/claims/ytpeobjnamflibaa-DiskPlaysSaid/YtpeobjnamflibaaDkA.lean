/-
  The Go text of small parts of a disk, walked: the power, a step, names, copies of texts. Conditions: as each theorem states.
-/
import Derived.Test.YtpeobjnamflibaaRows
import Derived.WalkKit
import Derived.ProofKit
import Derived.Lib.Hide
import Derived.Test.YtpeobjnamflibaaShelf
import Derived.Laws.Rows
import Derived.Maps.OwnSet
import Derived.Maps.AppendAt
namespace Go.Proofs.Ytpeobjnamflibaa.Dk
open Go.RowKit Go.Shelf

theorem clone_lite (s : ByteArray) (w : World) (hs : s.size ≤ 281474976710656) :
    Calls Try.prog 49 #[.string s] w fun e w' => e = .returned (.string s) ∧ Below w.heap.size w w' :=
  Try.stringslite_Clone s w hs
theorem clone_any (s : ByteArray) (w : World) (hs : Hid (s.size ≤ 281474976710656)) :
    Calls Try.prog 39 #[.string s] w fun e w' => e = .returned (.string s) ∧ Below w.heap.size w w' := by
  go_enter Try.func39, Try.ntmps39
  go_wp2_with (go_at_call 49; with_reducible refine (clone_lite s _ hs.out).mono ?_; rintro e w1 ⟨rfl, hb⟩)
  go_ret
  exact ⟨rfl, hb⟩

/-! the disk's own block -/
def diskCells (m : Nat) (room steps fuse fault : Int) (down : Bool) : Array Value :=
  #[.map (some m), .int .i64 room, .int .i64 steps, .int .i64 fuse, .int .i64 fault, .bool down]
def DiskIs (w : World) (d m : Nat) (room steps fuse fault : Int) (down : Bool) : Prop :=
  w.heap[d]? = some (.cells (diskCells m room steps fuse fault down) 44 (0, 0))

theorem cell_in {w : World} {g : Nat} {c : Array Value} {t : TypeId} (h : w.heap[g]? = some (.cells c t (0, 0))) (j : Nat) (v : Value) (hj : c[j]? = some v) :
    w.cell? ⟨g, j, none⟩ = some v := by rw [cell_of_row w g j c t (0, 0) h]; exact hj
theorem free_in {w : World} {g : Nat} {c : Array Value} {t : TypeId} (h : w.heap[g]? = some (.cells c t (0, 0))) (j : Nat) : w.frozen? ⟨g, j, none⟩ = false := by
  simp [World.frozen?, h]
theorem heap_set {w : World} {g : Nat} {c : Array Value} {t : TypeId} {fr : Nat × Nat} (h : w.heap[g]? = some (.cells c t fr)) (j : Nat) (v : Value) :
    (w.setCell ⟨g, j, none⟩ v).heap[g]? = some (.cells (c.setIfInBounds j v) t fr) := by
  simp only [World.setCell, Array.getElem?_modify, if_true, h]
  rfl
theorem grown_set (w : World) (g j : Nat) (v : Value) : w.grownBy (w.setCell ⟨g, j, none⟩ v) (some g) :=
  ⟨rfl, rfl, rfl, by simp [World.setCell], fun k _ hk => Below.heap_setCell w ⟨g, j, none⟩ v k (fun e => hk (by rw [e]))⟩

section
variable {w : World} {d m : Nat} {room steps fuse fault : Int} {down : Bool}
theorem disk0 (h : DiskIs w d m room steps fuse fault down) : w.cell? ⟨d, 0, none⟩ = some (.map (some m)) := cell_in h 0 _ rfl
theorem disk1 (h : DiskIs w d m room steps fuse fault down) : w.cell? ⟨d, 1, none⟩ = some (.int .i64 room) := cell_in h 1 _ rfl
theorem disk2 (h : DiskIs w d m room steps fuse fault down) : w.cell? ⟨d, 2, none⟩ = some (.int .i64 steps) := cell_in h 2 _ rfl
theorem disk3 (h : DiskIs w d m room steps fuse fault down) : w.cell? ⟨d, 3, none⟩ = some (.int .i64 fuse) := cell_in h 3 _ rfl
theorem disk4 (h : DiskIs w d m room steps fuse fault down) : w.cell? ⟨d, 4, none⟩ = some (.int .i64 fault) := cell_in h 4 _ rfl
theorem disk5 (h : DiskIs w d m room steps fuse fault down) : w.cell? ⟨d, 5, none⟩ = some (.bool down) := cell_in h 5 _ rfl
end
theorem powered_nil (w : World) : Calls Try.prog 36 #[.pointer none] w fun e w' => e = .returned (.int .i64 1) ∧ w = w' := by
  go_enter Try.func36, Try.ntmps36
  go_wp2
  go_ret
  exact ⟨rfl, rfl⟩
theorem powered_any {w : World} {d m : Nat} {room steps fuse fault : Int} {down : Bool} (h : DiskIs w d m room steps fuse fault down) :
    Calls Try.prog 36 #[.pointer (some ⟨d, 0, none⟩)] w fun e w' => e = .returned (.int .i64 (if down then 13 else 0)) ∧ w = w' := by
  have c5 := disk5 h
  cases down
  · go_enter Try.func36, Try.ntmps36
    go_wp2
    go_ret
    exact ⟨rfl, rfl⟩
  · go_enter Try.func36, Try.ntmps36
    go_wp2
    go_ret
    exact ⟨rfl, rfl⟩

/-- a fuse or a fault above nought is one less behind a step -/
def tick (n : Int) : Int := if 0 < n then n - 1 else n
theorem tick_pos {n : Int} (h : 0 < n) : tick n = n - 1 := if_pos h
theorem tick_neg {n : Int} (h : ¬ 0 < n) : tick n = n := if_neg h
theorem step_down {w : World} {d m : Nat} {room steps fault : Int} (h : DiskIs w d m room steps 0 fault false) :
    Calls Try.prog 38 #[.pointer (some ⟨d, 0, none⟩)] w fun e w' => e = .returned (.int .i64 13) ∧ DiskIs w' d m room steps 0 fault true ∧ w.grownBy w' (some d) := by
  have c3 := disk3 h
  have c5 := disk5 h
  have f5 := free_in h 5
  have H := Lib.hid h
  clear h
  go_enter Try.func38, Try.ntmps38
  go_wp2
  go_ret
  exact ⟨rfl, heap_set H.out 5 _, grown_set _ _ _ _⟩
theorem step_fault {w : World} {d m : Nat} {room steps fuse : Int} (hf : (fuse == 0) = false) (h : DiskIs w d m room steps fuse 0 false) :
    Calls Try.prog 38 #[.pointer (some ⟨d, 0, none⟩)] w fun e w' => e = .returned (.int .i64 15) ∧ DiskIs w' d m room steps fuse (-1) false ∧ w.grownBy w' (some d) := by
  have c3 := disk3 h
  have c4 := disk4 h
  have f4 := free_in h 4
  have H := Lib.hid h
  clear h
  go_enter Try.func38, Try.ntmps38
  go_wp2
  go_ret
  exact ⟨rfl, heap_set H.out 4 _, grown_set _ _ _ _⟩
theorem step_ok {w : World} {d m : Nat} {room steps fuse fault : Int} (hf : (fuse == 0) = false) (ha : (fault == 0) = false)
    (b1 : -1 ≤ fuse) (b2 : -1 ≤ fault) (b3 : fuse ≤ 9223372036854775807) (b4 : fault ≤ 9223372036854775807) (b5 : 0 ≤ steps) (b6 : steps < 9223372036854775807) (h : DiskIs w d m room steps fuse fault false) :
    Calls Try.prog 38 #[.pointer (some ⟨d, 0, none⟩)] w fun e w' => e = .returned (.int .i64 0) ∧ DiskIs w' d m room (steps + 1) (tick fuse) (tick fault) false ∧ w.grownBy w' (some d) := by
  have c2 := disk2 h
  have c3 := disk3 h
  have c4 := disk4 h
  have f2 := free_in h 2
  have f3 := free_in h 3
  have f4 := free_in h 4
  have H := Lib.hid h
  clear h
  by_cases g1 : 0 < fuse
  · by_cases g2 : 0 < fault
    · go_enter Try.func38, Try.ntmps38
      go_wp2
      go_ret
      refine ⟨rfl, ?_, ((grown_set _ _ _ _).trans (grown_set _ _ _ _)).trans (grown_set _ _ _ _)⟩
      rw [tick_pos (by omega), tick_pos (by omega)]
      exact heap_set (heap_set (heap_set H.out 3 _) 4 _) 2 _
    · have g2' : fault ≤ 0 := by omega
      go_enter Try.func38, Try.ntmps38
      go_wp2
      go_ret
      refine ⟨rfl, ?_, (grown_set _ _ _ _).trans (grown_set _ _ _ _)⟩
      rw [tick_pos (by omega), tick_neg (by omega)]
      exact heap_set (heap_set H.out 3 _) 2 _
  · have g1' : fuse ≤ 0 := by omega
    by_cases g2 : 0 < fault
    · go_enter Try.func38, Try.ntmps38
      go_wp2
      go_ret
      refine ⟨rfl, ?_, (grown_set _ _ _ _).trans (grown_set _ _ _ _)⟩
      rw [tick_neg (by omega), tick_pos (by omega)]
      exact heap_set (heap_set H.out 4 _) 2 _
    · have g2' : fault ≤ 0 := by omega
      go_enter Try.func38, Try.ntmps38
      go_wp2
      go_ret
      refine ⟨rfl, ?_, grown_set _ _ _ _⟩
      rw [tick_neg (by omega), tick_neg (by omega)]
      exact heap_set H.out 2 _
end Go.Proofs.Ytpeobjnamflibaa.Dk
