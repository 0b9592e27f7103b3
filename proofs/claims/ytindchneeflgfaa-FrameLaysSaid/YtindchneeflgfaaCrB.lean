/-
  The Go text of the table of CRC-32C, and of a sum by the table, walked. Conditions: as each theorem states.
-/
import Derived.Test.YtindchneeflgfaaCrA
import Derived.Deep.WholeRow
import Derived.Deep.LoopGhost
namespace Go.Proofs.Ytindchneeflgfaa.Crc
open Go.RowKit
def tabAt (k j : Nat) : Value := .int .u32 (if j < k then byt j else 0)
def IsTab (k : Nat) (cs : Array Value) : Prop := cs.size = 256 ∧ ∀ j, j < 256 → cs[j]? = some (tabAt k j)
def zc : Array Value := Array.replicate 256 (.int .u32 0)
theorem zeros : zc = Array.replicate 256 (.int .u32 0) := rfl
@[simp] theorem zc_value (w : World) : (zeroValue 88).run Try.prog w = .ok (.agg zc) w := by kernel_rfl
theorem zc_size : zc.size = 256 := by rw [zeros]; simp
@[simp] theorem zc_ne : ¬ zc = #[] := fun h => by have := zc_size; rw [h] at this; simp at this
attribute [irreducible] zc
theorem isTab_zero : IsTab 0 zc := by
  rw [zeros]
  refine ⟨by simp, fun j hj => ?_⟩
  simp [tabAt, hj]
theorem heap_setRow (w : World) (g : Nat) (c : Array Value) (k : Nat) (h : k ≠ g) : (w.setRow g c).heap[k]? = w.heap[k]? := by
  simp only [World.setRow, Array.getElem?_modify]
  rw [if_neg (by omega)]
theorem below_setRow {B : Nat} {a w : World} (h : Below B a w) {g : Nat} (hg : B ≤ g) (c : Array Value) : Below B a (w.setRow g c) :=
  h.trans ⟨rfl, rfl, rfl, by simp [World.setRow], fun k hk => heap_setRow _ _ _ _ (by omega)⟩
theorem heap_setRow_at {w : World} {g : Nat} {old c : Array Value} {t : TypeId} {fr : Nat × Nat} (h : w.heap[g]? = some (.cells old t fr)) : (w.setRow g c).heap[g]? = some (.cells c t fr) := by
  simp only [World.setRow, Array.getElem?_modify]
  rw [if_pos trivial, h]
  rfl
theorem isTab_one {k : Nat} {cs : Array Value} (h : IsTab k cs) : cs.all (·.oneCell') = true := by
  rw [Array.all_eq_true]
  intro i hi
  have h2 := h.2 i (by rw [← h.1]; exact hi)
  rw [Array.getElem?_eq_getElem hi] at h2
  injection h2 with h2
  rw [h2]; rfl
theorem isTab_set {k : Nat} {cs : Array Value} (h : IsTab k cs) (hk : k < 256) : IsTab (k + 1) (cs.setIfInBounds k (.int .u32 (byt k))) := by
  refine ⟨by simpa using h.1, fun j hj => ?_⟩
  rw [Array.getElem?_setIfInBounds]
  split
  · next e => subst e; rw [if_pos (by rw [h.1]; exact hk)]; simp [tabAt]
  · next e =>
    rw [h.2 j hj]
    unfold tabAt
    have : (j < k + 1) ↔ (j < k) := by omega
    simp only [this]
set_option maxRecDepth 100000 in
theorem table_any (w : World) :
    Calls Try.prog 55 #[] w fun e w' => ∃ cs, IsTab 256 cs ∧ e = .returned (.agg cs) ∧ Below w.heap.size w w' := by
  obtain ⟨Z, hZ⟩ : ∃ Z, Z = zc := ⟨_, rfl⟩
  have HZ : IsTab 0 Z := by rw [hZ]; exact isTab_zero
  have H := Lib.hid hZ
  clear hZ
  go_enter Try.func55, Try.ntmps55
  go_wp2
  rw [← H.out]
  go_loopw [3] (fun i wr => ∃ (k : Nat) (cs : Array Value), k ≤ 256 ∧ i = .int .i64 k ∧ IsTab k cs ∧ wr = (w.alloc (Obj.cells Z 88)).alloc (Obj.cells cs 88)) (fun i _ => 256 - (intOf i).toNat)
  case atStart => exact ⟨0, _, by omega, rfl, HZ, rfl⟩
  case round =>
    obtain ⟨k, cs, hk, rfl, hT, rfl⟩ := hrel
    by_cases h8 : k < 256
    · have hsz := Lib.hid hT.1
      have hg := hT.2 k h8
      go_wp2_with (go_at_call 54; with_reducible refine (number_at (b := k) (by omega) h8 _).mono ?_; rintro e w' ⟨rfl, rfl⟩)
      go_roundw
      case rel => exact ⟨k + 1, _, by omega, by go_num, isTab_set hT h8, rfl⟩
      case measure => simp [intOf]; omega
    · obtain rfl : k = 256 := by omega
      have HT := Lib.hid hT
      have hzs := Lib.hid HZ.1
      have hsz := Lib.hid hT.1
      have hone := Lib.hid (isTab_one hT)
      clear hT HZ
      have hgl : Hid (((w.alloc (Obj.cells Z 88)).alloc (Obj.cells cs 88)).heap[w.heap.size + 1]? = some (Obj.cells cs 88)) := by
        have h := heap_alloc_last (w.alloc (Obj.cells Z 88)) (Obj.cells cs 88)
        rw [show (w.alloc (Obj.cells Z 88)).heap.size = w.heap.size + 1 by simp] at h
        exact h
      have hgs : Hid (((w.alloc (Obj.cells Z 88)).alloc (Obj.cells cs 88)).heap[w.heap.size]? = some (Obj.cells Z 88)) :=
        (Below.heap_alloc _ _ _ (by simp)).trans (heap_alloc_last w _)
      have hi : Hid ((Try.prog.info? 88).map (·.size) = some cs.size) := by rw [Hid, hsz.out]; kernel_rfl
      go_wp2_with (first
        | (with_reducible refine wpList_load_row (o := ⟨some 12, .load 88 (.tmp 1), _, _, _, _⟩) ?_ 88 (.tmp 1) ?_ (w.heap.size + 1) ?_ 88 cs (0, 0) (.array 256 63) hgl.out Try.underlying88 ?_ hi.out ?_
           · rfl
           · rfl
           · rfl
           · rfl)
        | (with_reducible refine wpList_store_row (o := ⟨none, .store 88 (.tmp 0) (.tmp 12), _, _, _, _⟩) ?_ 88 (.tmp 0) (.tmp 12) ?_ w.heap.size cs ?_ ?_ 88 Z hgs.out hi.out (hzs.out.trans hsz.out.symm) hone.out ?_
           · rfl
           · rfl
           · rfl
           · rfl))
      refine bodyPost_ret (v := .agg cs) ?_ rfl ⟨cs, HT.out, rfl, ?_⟩
      · refine results_cell_row rfl _ _ w.heap.size 88 cs (0, 0) (.array 256 63) rfl ?_ Try.underlying88 rfl hi.out
        exact heap_setRow_at hgs.out
      · exact below_setRow (((Below.refl _ _).alloc (Nat.le_refl _) _).alloc (by simp) _) (Nat.le_refl _) _

theorem isTab_at {cs : Array Value} (h : IsTab 256 cs) {j : Nat} (hj : j < 256) : cs[j]? = some (.int .u32 (byt j)) := by
  rw [h.2 j hj]; simp [tabAt, hj]
theorem xor8_bd (m : Nat) (c : UInt8) : 0 ≤ bits .xor .u8 ((m : Int) % 256) (c.toNat : Int) ∧ bits .xor .u8 ((m : Int) % 256) (c.toNat : Int) < 256 := by
  rw [xor8]; have := xor8_lt (s := m) c; omega
theorem isTab_size {k : Nat} {cs : Array Value} (h : IsTab k cs) : zc.size = cs.size := zc_size.trans h.1.symm
theorem isTab_info {k : Nat} {cs : Array Value} (h : IsTab k cs) : (Try.prog.info? 88).map (·.size) = some cs.size := by rw [h.1]; kernel_rfl
set_option maxRecDepth 100000 in
theorem byTable_any (n : Nat) (hn : n < 4294967296) (s : ByteArray) (hs : s.size ≤ maxLen) (w : World) :
    Calls Try.prog 48 #[.int .u32 n, .string s] w fun e w' => e = .returned (.int .u32 (run n s.data.toList)) ∧ Below w.heap.size w w' := by
  unfold maxLen at hs
  go_enter Try.func48, Try.ntmps48
  go_wp2_with (first
    | (go_at_call 55; refine (table_any _).mono ?_; rintro e w1 ⟨cs, hT, rfl, hb⟩)
    | (with_reducible refine wpList_store_row (o := ⟨none, .store 88 (.tmp 5) (.tmp 7), _, _, _, _⟩) ?_ 88 (.tmp 5) (.tmp 7) ?_ w1.heap.size cs ?_ ?_ 88 zc (heap_alloc_last w1 _) (isTab_info hT) (isTab_size hT) (isTab_one hT) ?_
       · rfl
       · rfl
       · rfl
       · rfl
       rw [World.setRow_alloc_new]))
  go_loop [0, 10] (fun x i => ∃ k m : Nat, k ≤ s.size ∧ m = run n (s.data.toList.take k) ∧ x = .int .u32 m ∧ i = .int .i64 k) (fun _ i => s.size - (intOf i).toNat)
  case atStart => exact ⟨0, n, by omega, rfl, rfl, rfl⟩
  case round =>
    obtain ⟨k, m, hk, hm, rfl, rfl⟩ := hrel
    have HM := Lib.hid hm
    have hlt : m < 4294967296 := by rw [hm]; exact run_lt _ hn
    have hsz : 256 ≤ cs.size := by rw [hT.1]; exact Nat.le_refl _
    clear hm
    by_cases h8 : k < s.size
    · obtain ⟨j, hj⟩ : ∃ j, m % 256 ^^^ s[k].toNat = j := ⟨_, rfl⟩
      have hxe := xor8 m s[k]
      rw [hj] at hxe
      have hj256 : j < 256 := by rw [← hj]; exact xor8_lt _
      have hc := isTab_at hT hj256
      have HJ := Lib.hid hj
      clear hj
      go_wp2
      go_round
      case rel => exact ⟨k + 1, upd m s[k], by omega, by rw [take_snoc s k h8, run_snoc, ← HM.out], val_int (by rw [← HJ.out]; exact upd_eq m hlt _), by go_num⟩
      case measure => simp [intOf]; omega
    · go_wp2
      go_ret
      exact ⟨ret_int (by rw [HM.out, take_all s k (by omega)]), hb.alloc hb.size _⟩
end Go.Proofs.Ytindchneeflgfaa.Crc
