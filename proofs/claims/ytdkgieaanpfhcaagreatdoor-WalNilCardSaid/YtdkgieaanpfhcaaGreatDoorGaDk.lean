/-
  Several texts in one: DkA, DkB, DkL, DkC, DkD, DkE. Conditions: as each theorem states.
-/
import Derived.Test.YtdkgieaanpfhcaaGreatDoorRows
import Derived.WalkKit
import Derived.ProofKit
import Derived.Lib.Hide
import Derived.Test.YtdkgieaanpfhcaaGreatDoorShelf
import Derived.Laws.Rows
import Derived.Maps.OwnSet
import Derived.Maps.AppendAt
import Derived.Test.YtdkgieaanpfhcaaGreatDoorIter
import Derived.Lib.AppendStr
import Derived.Deep.RegionHeld3
import Derived.Deep.QuietTactic
import Derived.BigQuiet
import Derived.Maps.RangeWalk
import Derived.Sort.KeysCollected
namespace Go.Proofs.YtdkgieaanpfhcaaGreatDoor.Dk
open Go.RowKit Go.Shelf

theorem clone_lite (s : ByteArray) (w : World) (hs : s.size ≤ 281474976710656) :
    Calls Tryz.prog 88 #[.string s] w fun e w' => e = .returned (.string s) ∧ Below w.heap.size w w' :=
  Tryz.stringslite_Clone s w hs
theorem clone_any (s : ByteArray) (w : World) (hs : Hid (s.size ≤ 281474976710656)) :
    Calls Tryz.prog 46 #[.string s] w fun e w' => e = .returned (.string s) ∧ Below w.heap.size w w' := by
  go_enter Tryz.func46, Tryz.ntmps46
  go_wp2_with (go_at_call 88; with_reducible refine (clone_lite s _ hs.out).mono ?_; rintro e w1 ⟨rfl, hb⟩)
  go_ret
  exact ⟨rfl, hb⟩

/-! the disk's own block -/
def diskCells (m : Nat) (room steps fuse fault : Int) (down : Bool) : Array Value :=
  #[.map (some m), .int .i64 room, .int .i64 steps, .int .i64 fuse, .int .i64 fault, .bool down]
def DiskIs (w : World) (d m : Nat) (room steps fuse fault : Int) (down : Bool) : Prop :=
  w.heap[d]? = some (.cells (diskCells m room steps fuse fault down) 79 (0, 0))

theorem cell_in {w : World} {g : Nat} {c : Array Value} {t : TypeId} (h : w.heap[g]? = some (.cells c t (0, 0))) (j : Nat) (v : Value) (hj : c[j]? = some v) :
    w.cell? ⟨g, j, none⟩ = some v := by rw [cell_of_row w g j c t (0, 0) h]; exact hj
theorem free_in {w : World} {g : Nat} {c : Array Value} {t : TypeId} (h : w.heap[g]? = some (.cells c t (0, 0))) (j : Nat) : w.frozen? ⟨g, j, none⟩ = false := by
  simp [World.frozen?, h]
theorem heap_set {w : World} {g : Nat} {c : Array Value} {t : TypeId} {fr : Nat × Nat} (h : w.heap[g]? = some (.cells c t fr)) (j : Nat) (v : Value) :
    (w.setCell ⟨g, j, none⟩ v).heap[g]? = some (.cells (c.setIfInBounds j v) t fr) := by
  simp only [World.setCell, Array.getElem?_modify, if_true, h]
  rfl
theorem grown_set (w : World) (g j : Nat) (v : Value) : w.grownBy (w.setCell ⟨g, j, none⟩ v) (some g) :=
  ⟨rfl, rfl, rfl, by simp [World.setCell], fun k _ hk => Below.heap_setCell w ⟨g, j, none⟩ v k (fun e => hk (by rw [e]))⟩

section
variable {w : World} {d m : Nat} {room steps fuse fault : Int} {down : Bool}
theorem disk0 (h : DiskIs w d m room steps fuse fault down) : w.cell? ⟨d, 0, none⟩ = some (.map (some m)) := cell_in h 0 _ rfl
theorem disk1 (h : DiskIs w d m room steps fuse fault down) : w.cell? ⟨d, 1, none⟩ = some (.int .i64 room) := cell_in h 1 _ rfl
theorem disk2 (h : DiskIs w d m room steps fuse fault down) : w.cell? ⟨d, 2, none⟩ = some (.int .i64 steps) := cell_in h 2 _ rfl
theorem disk3 (h : DiskIs w d m room steps fuse fault down) : w.cell? ⟨d, 3, none⟩ = some (.int .i64 fuse) := cell_in h 3 _ rfl
theorem disk4 (h : DiskIs w d m room steps fuse fault down) : w.cell? ⟨d, 4, none⟩ = some (.int .i64 fault) := cell_in h 4 _ rfl
theorem disk5 (h : DiskIs w d m room steps fuse fault down) : w.cell? ⟨d, 5, none⟩ = some (.bool down) := cell_in h 5 _ rfl
end
theorem powered_nil (w : World) : Calls Tryz.prog 39 #[.pointer none] w fun e w' => e = .returned (.int .i64 1) ∧ w = w' := by
  go_enter Tryz.func39, Tryz.ntmps39
  go_wp2
  go_ret
  exact ⟨rfl, rfl⟩
theorem powered_any {w : World} {d m : Nat} {room steps fuse fault : Int} {down : Bool} (h : DiskIs w d m room steps fuse fault down) :
    Calls Tryz.prog 39 #[.pointer (some ⟨d, 0, none⟩)] w fun e w' => e = .returned (.int .i64 (if down then 13 else 0)) ∧ w = w' := by
  have c5 := disk5 h
  cases down
  · go_enter Tryz.func39, Tryz.ntmps39
    go_wp2
    go_ret
    exact ⟨rfl, rfl⟩
  · go_enter Tryz.func39, Tryz.ntmps39
    go_wp2
    go_ret
    exact ⟨rfl, rfl⟩

/-- a fuse or a fault above nought is one less behind a step -/
def tick (n : Int) : Int := if 0 < n then n - 1 else n
theorem tick_pos {n : Int} (h : 0 < n) : tick n = n - 1 := if_pos h
theorem tick_neg {n : Int} (h : ¬ 0 < n) : tick n = n := if_neg h
theorem step_down {w : World} {d m : Nat} {room steps fault : Int} (h : DiskIs w d m room steps 0 fault false) :
    Calls Tryz.prog 68 #[.pointer (some ⟨d, 0, none⟩)] w fun e w' => e = .returned (.int .i64 13) ∧ DiskIs w' d m room steps 0 fault true ∧ w.grownBy w' (some d) := by
  have c3 := disk3 h
  have c5 := disk5 h
  have f5 := free_in h 5
  have H := Lib.hid h
  clear h
  go_enter Tryz.func68, Tryz.ntmps68
  go_wp2
  go_ret
  exact ⟨rfl, heap_set H.out 5 _, grown_set _ _ _ _⟩
theorem step_fault {w : World} {d m : Nat} {room steps fuse : Int} (hf : (fuse == 0) = false) (h : DiskIs w d m room steps fuse 0 false) :
    Calls Tryz.prog 68 #[.pointer (some ⟨d, 0, none⟩)] w fun e w' => e = .returned (.int .i64 15) ∧ DiskIs w' d m room steps fuse (-1) false ∧ w.grownBy w' (some d) := by
  have c3 := disk3 h
  have c4 := disk4 h
  have f4 := free_in h 4
  have H := Lib.hid h
  clear h
  go_enter Tryz.func68, Tryz.ntmps68
  go_wp2
  go_ret
  exact ⟨rfl, heap_set H.out 4 _, grown_set _ _ _ _⟩
theorem step_ok {w : World} {d m : Nat} {room steps fuse fault : Int} (hf : (fuse == 0) = false) (ha : (fault == 0) = false)
    (b1 : -1 ≤ fuse) (b2 : -1 ≤ fault) (b3 : fuse ≤ 9223372036854775807) (b4 : fault ≤ 9223372036854775807) (b5 : 0 ≤ steps) (b6 : steps < 9223372036854775807) (h : DiskIs w d m room steps fuse fault false) :
    Calls Tryz.prog 68 #[.pointer (some ⟨d, 0, none⟩)] w fun e w' => e = .returned (.int .i64 0) ∧ DiskIs w' d m room (steps + 1) (tick fuse) (tick fault) false ∧ w.grownBy w' (some d) := by
  have c2 := disk2 h
  have c3 := disk3 h
  have c4 := disk4 h
  have f2 := free_in h 2
  have f3 := free_in h 3
  have f4 := free_in h 4
  have H := Lib.hid h
  clear h
  by_cases g1 : 0 < fuse
  · by_cases g2 : 0 < fault
    · go_enter Tryz.func68, Tryz.ntmps68
      go_wp2
      go_ret
      refine ⟨rfl, ?_, ((grown_set _ _ _ _).trans (grown_set _ _ _ _)).trans (grown_set _ _ _ _)⟩
      rw [tick_pos (by omega), tick_pos (by omega)]
      exact heap_set (heap_set (heap_set H.out 3 _) 4 _) 2 _
    · have g2' : fault ≤ 0 := by omega
      go_enter Tryz.func68, Tryz.ntmps68
      go_wp2
      go_ret
      refine ⟨rfl, ?_, (grown_set _ _ _ _).trans (grown_set _ _ _ _)⟩
      rw [tick_pos (by omega), tick_neg (by omega)]
      exact heap_set (heap_set H.out 3 _) 2 _
  · have g1' : fuse ≤ 0 := by omega
    by_cases g2 : 0 < fault
    · go_enter Tryz.func68, Tryz.ntmps68
      go_wp2
      go_ret
      refine ⟨rfl, ?_, (grown_set _ _ _ _).trans (grown_set _ _ _ _)⟩
      rw [tick_neg (by omega), tick_pos (by omega)]
      exact heap_set (heap_set H.out 4 _) 2 _
    · have g2' : fault ≤ 0 := by omega
      go_enter Tryz.func68, Tryz.ntmps68
      go_wp2
      go_ret
      refine ⟨rfl, ?_, grown_set _ _ _ _⟩
      rw [tick_neg (by omega), tick_neg (by omega)]
      exact heap_set H.out 2 _
end Go.Proofs.YtdkgieaanpfhcaaGreatDoor.Dk
namespace Go.Proofs.YtdkgieaanpfhcaaGreatDoor.Dk
open Go.RowKit
/-- a byte that may stand in a name -/
def inNm (c : UInt8) : Bool := (decide (97 ≤ c.toNat) && decide (c.toNat ≤ 122)) || (decide (48 ≤ c.toNat) && decide (c.toNat ≤ 57)) || c.toNat == 45 || c.toNat == 46
def isNm (l : List UInt8) : Bool := decide (1 ≤ l.length) && decide (l.length ≤ 32) && l.all inNm
theorem inName_any (c : UInt8) (w : World) : Calls Tryz.prog 105 #[.int .u8 c.toNat] w fun e w' => e = .returned (.bool (inNm c)) ∧ w = w' := by
  have hc := c.toNat_lt
  go_enter Tryz.func105, Tryz.ntmps105
  go_wp2
  all_goals go_ret
  all_goals refine ⟨congrArg (fun b => Ending.returned (.bool b)) ?_, rfl⟩
  all_goals rw [Bool.eq_iff_iff]
  all_goals simp [inNm]
  all_goals omega

theorem take_snoc' (s : ByteArray) (k : Nat) (h : k < s.size) : s.data.toList.take (k + 1) = s.data.toList.take k ++ [s[k]] := by
  rw [List.take_succ_eq_append_getElem (by simpa using h)]; rfl
theorem isNm_no {l : List UInt8} (h : l.length < 1 ∨ 32 < l.length) : isNm l = false := by
  unfold isNm
  rcases h with h | h
  · simp [show ¬ 1 ≤ l.length by omega]
  · simp [show ¬ l.length ≤ 32 by omega]
theorem isName_any (s : ByteArray) (hs : Hid (s.size ≤ maxLen)) (w : World) : Calls Tryz.prog 67 #[.string s] w fun e w' => e = .returned (.bool (isNm s.data.toList)) ∧ w = w' := by
  have hl : s.data.toList.length = s.size := by rw [Array.length_toList]; rfl
  have hx : s.size ≤ 9223372036854775807 := hs.out
  by_cases h1 : s.size < 1 ∨ 32 < s.size
  · rw [isNm_no (by rw [hl]; exact h1)]
    clear hl
    by_cases h2 : s.size < 1
    · clear h1
      go_enter Tryz.func67, Tryz.ntmps67
      go_wp2
      go_ret
      exact ⟨rfl, rfl⟩
    · have h3 : 32 < s.size := by omega
      have h2' : 1 ≤ s.size := by omega
      clear h1 h2
      go_enter Tryz.func67, Tryz.ntmps67
      go_wp2
      go_ret
      exact ⟨rfl, rfl⟩
  · have h2 : 1 ≤ s.size := by omega
    have h3 : s.size ≤ 32 := by omega
    clear h1
    have HL := Lib.hid hl
    clear hl
    go_enter Tryz.func67, Tryz.ntmps67
    go_wp2
    go_loop [14] (fun i => ∃ k : Nat, k ≤ s.size ∧ i = .int .i64 k ∧ (s.data.toList.take k).all inNm = true) (fun i => s.size - (intOf i).toNat)
    case atStart => exact ⟨0, by omega, rfl, rfl⟩
    case round =>
      obtain ⟨k, hk, rfl, ha⟩ := hrel
      have HA := Lib.hid ha
      clear ha
      by_cases hlt : k < s.size
      · have hts := Lib.hid (take_snoc' s k hlt)
        by_cases hin : inNm s[k] = true
        · go_wp2_with (go_at_call 105; with_reducible refine (inName_any s[k] _).mono ?_; rintro e w1 ⟨rfl, rfl⟩)
          go_round
          case rel => exact ⟨k + 1, by omega, by go_num, by rw [hts.out, List.all_append, HA.out]; simp [hin]⟩
          case measure => simp [intOf]; omega
        · have hin' : inNm s[k] = false := by simpa using hin
          clear hin
          go_wp2_with (go_at_call 105; with_reducible refine (inName_any s[k] _).mono ?_; rintro e w1 ⟨rfl, rfl⟩)
          go_ret
          refine ⟨congrArg (fun b => Ending.returned (.bool b)) ?_, rfl⟩
          have hm : s[k] ∈ s.data.toList := by
            have : s[k] ∈ s.data.toList.take (k + 1) := by rw [hts.out]; simp
            exact List.mem_of_mem_take this
          have : s.data.toList.all inNm = false := by
            rw [List.all_eq_false]; exact ⟨_, hm, by simp [hin']⟩
          simp [isNm, this]
      · go_wp2
        go_ret
        refine ⟨congrArg (fun b => Ending.returned (.bool b)) ?_, rfl⟩
        have h0 := HA.out
        rw [List.take_of_length_le (by rw [HL.out]; omega)] at h0
        unfold isNm
        rw [h0, HL.out]
        simp [h2, h3]
end Go.Proofs.YtdkgieaanpfhcaaGreatDoor.Dk
namespace Go.Proofs
open Go.RowKit Go.Maps Go.Sort Go.Shelf
theorem Tryz.sorts82 (m : Nat) : AnyZ.SortsIn Tryz.prog Tryz.sorted82_ren Fence.wide m :=
  ⟨fun blk off cap ss W hH hblk hsz => callsIn_wide.2 (AnyM.slices_Sort_string Tryz.sort114 blk off cap ss W hH hblk hsz),
   fun p cap W => callsIn_wide.2 (AnyM.slices_Sort_string_none Tryz.sort114 p cap W)⟩

theorem Tryz.maps_Keys_83 (mb : Option Nat) (W : World) : CallsIn Fence.wide 5 Tryz.prog 83 #[.map mb] W fun e w' => e = .returned (.func (.func 115) #[] #[.pointer (some ⟨W.heap.size, 0, none⟩)]) ∧ w' = W.alloc (.cells #[.map mb] 77) :=
  AnyZ.keys_in Tryz.keys83 Fence.wide 5 trivial rfl mb W

set_option maxHeartbeats 1000000 in
theorem Tryz.slices_Sorted_keys_82_83 {H : Type} (b nn : Nat) (D0 : DataW H) (R : Value → Option (DataW H × List MemPlace)) (w : World) (hown : w.ownsMap Tryz.prog 9 R b nn D0) (hmax : Maps.size D0 ≤ maxLen) (hbytes : Maps.size D0 * 16 ≤ 140737488355328) :
    CallsIn Fence.wide 5 Tryz.prog 82 #[.func (.func 115) #[] #[.pointer (some ⟨w.heap.size, 0, none⟩)]] (w.alloc (.cells #[.map (some b)] 77)) fun e w' => ∃ (v : Value) (ss : List (List UInt8)), e = .returned v ∧ ss.Perm (strKeys D0) ∧
      w'.ownsRow (w.alloc (.cells #[.map (some b)] 77)).heap.size 9 1 v ss.length ((ss.mergeSort (fun x y => decide (x ≤ y))).map encStr) ∧ (v = .slice none 0 0 ↔ ss = []) ∧ Below (w.alloc (.cells #[.map (some b)] 77)).heap.size (w.alloc (.cells #[.map (some b)] 77)) w' := by
  have hbl := hown.lt
  have hseq : SeqGives Fence.wide 2 Tryz.prog 115 #[.pointer (some ⟨w.heap.size, 0, none⟩)] encStr (fun ss => ss.Perm (strKeys D0)) (Maps.size D0) (w.alloc (.cells #[.map (some b)] 77)) :=
    AnyZ.keys_gives (ρ := Tryz.keys83_ren) { Tryz.keys83 with } Fence.wide _ trivial rfl (by omega) w.heap.size b nn D0 _ (by simp) (by simp) (by
      obtain ⟨es, clock, hb, Ft, hs, hD⟩ := hown
      exact ⟨es, clock, (Below.heap_alloc _ _ b hbl).trans hb, Ft, hs, hD⟩)
  exact AnyZ.sorted_in Tryz.sorted82 Fence.wide 5 trivial trivial trivial trivial rfl (by omega) (Tryz.sorts82 _) (enters_of Tryz.func114 (by kernel_rfl) rfl) 115 #[.pointer (some ⟨w.heap.size, 0, none⟩)] trivial (enters_of Tryz.func115 (by kernel_rfl) rfl) _ _ hmax hbytes _ hseq


end Go.Proofs
namespace Go.Proofs.YtdkgieaanpfhcaaGreatDoor.Dk
open Go.RowKit Go.Maps Go.Sort Go.Shelf
theorem list_nil (w : World) : Calls Tryz.prog 40 #[.pointer none] w fun e w' => e = .returned (.slice none 0 0) ∧ w = w' := by
  go_enter Tryz.func40, Tryz.ntmps40
  go_wp2
  go_ret
  exact ⟨rfl, rfl⟩
set_option maxHeartbeats 1000000 in
theorem list_any {H : Type} {w : World} {d m : Nat} {room steps fuse fault : Int} {down : Bool} (h : DiskIs w d m room steps fuse fault down) {nn : Nat} {D0 : DataW H} {R : Value → Option (DataW H × List MemPlace)}
    (hown : w.ownsMap Tryz.prog 9 R m nn D0) (hmax : Maps.size D0 ≤ maxLen) (hbytes : Maps.size D0 * 16 ≤ 140737488355328) :
    Calls Tryz.prog 40 #[.pointer (some ⟨d, 0, none⟩)] w fun e w' => ∃ (v : Value) (ss : List (List UInt8)), e = .returned v ∧ ss.Perm (strKeys D0) ∧
      w'.ownsRow w.heap.size 9 1 v ss.length ((ss.mergeSort (fun x y => decide (x ≤ y))).map encStr) ∧ (v = .slice none 0 0 ↔ ss = []) ∧ Below w.heap.size w w' := by
  have c0 := disk0 h
  clear h
  refine (callsIn_wide (n := 6)).1 ?_
  have hfK : Fence.wide.fn 83 := trivial
  have hfS : Fence.wide.fn 82 := trivial
  refine callsIn_of_wp Tryz.func40 rfl trivial ?_ rfl
  simp only [Tryz.ntmps40, List.size_toArray, List.length_cons, List.length_nil, Nat.reduceAdd, Nat.reduceSub, Array.replicate_succ, Array.replicate_zero, List.push_toArray, List.append_toArray, List.nil_append, List.cons_append]
  gi_wp2_with (first
    | (gi_at_call 83; refine (Tryz.maps_Keys_83 _ _).mono ?_; rintro e w' ⟨rfl, rfl⟩)
    | (gi_at_call 82; refine (Tryz.slices_Sorted_keys_82_83 m nn D0 R w hown hmax hbytes).mono ?_; rintro e w' ⟨v, ss, rfl, hS, hrow, hnil, hb⟩))
  go_ret
  exact ⟨v, ss, rfl, hS, ownsRow_base_a hrow (by simp), hnil, ((Below.refl _ w).alloc (Nat.le_refl _) _).trans (hb.mono (by simp))⟩
end Go.Proofs.YtdkgieaanpfhcaaGreatDoor.Dk
namespace Go.Proofs.YtdkgieaanpfhcaaGreatDoor.Dk
open Go.RowKit Go.Maps

/-! ### only some blocks turn -/
structure Only (fp : List Nat) (w w' : World) : Prop where
  os : w'.os = w.os
  tape : w'.tape = w.tape
  output : w'.output = w.output
  size : w.heap.size ≤ w'.heap.size
  block : ∀ k, k < w.heap.size → k ∉ fp → w'.heap[k]? = w.heap[k]?
/-- from footprint fp to fp': only fp's blocks turn, and what is new in fp' is new in memory -/
structure Moves (w : World) (fp : List Nat) (w' : World) (fp' : List Nat) : Prop where
  only : Only fp w w'
  fresh : ∀ k ∈ fp', k ∈ fp ∨ w.heap.size ≤ k
theorem Only.refl (fp : List Nat) (w : World) : Only fp w w := ⟨rfl, rfl, rfl, Nat.le_refl _, fun _ _ _ => rfl⟩
theorem Moves.refl (fp : List Nat) (w : World) : Moves w fp w fp := ⟨Only.refl _ _, fun _ h => Or.inl h⟩
theorem Moves.trans {w w1 w2 : World} {fp fp1 fp2 : List Nat} (h : Moves w fp w1 fp1) (k : Moves w1 fp1 w2 fp2) : Moves w fp w2 fp2 := by
  have hs1 := h.only.size
  have hs2 := k.only.size
  refine ⟨⟨k.only.os.trans h.only.os, k.only.tape.trans h.only.tape, k.only.output.trans h.only.output, Nat.le_trans hs1 hs2, fun i hi hn => ?_⟩, fun i hi => ?_⟩
  · refine (k.only.block i (Nat.lt_of_lt_of_le hi hs1) (fun hm => ?_)).trans (h.only.block i hi hn)
    rcases h.fresh i hm with h1 | h1
    · exact hn h1
    · omega
  · rcases k.fresh i hi with h1 | h1
    · exact h.fresh i h1
    · exact Or.inr (by omega)
theorem Only.of_grown {fp : List Nat} {w w' : World} {row : Option Nat} (h : w.grownBy w' row) (hr : ∀ k, row = some k → k ∈ fp) : Only fp w w' :=
  ⟨h.os, h.tape, h.output, h.size, fun k hk hn => h.block k hk (fun e => hn (hr k e.symm))⟩
theorem Only.of_below {fp : List Nat} {w w' : World} (h : Below w.heap.size w w') : Only fp w w' := ⟨h.os, h.tape, h.output, h.size, fun k hk _ => h.block k hk⟩
theorem Only.trans {fp : List Nat} {w w1 w2 : World} (h : Only fp w w1) (k : Only fp w1 w2) : Only fp w w2 :=
  ⟨k.os.trans h.os, k.tape.trans h.tape, k.output.trans h.output, Nat.le_trans h.size k.size, fun i hi hn => (k.block i (Nat.lt_of_lt_of_le hi h.size) hn).trans (h.block i hi hn)⟩
theorem Moves.below {w w' : World} {fp fp' : List Nat} (h : Moves w fp w' fp') {base : Nat} (hl : ∀ k ∈ fp, base ≤ k) (hb : base ≤ w.heap.size) : Below base w w' :=
  ⟨h.only.os, h.only.tape, h.only.output, h.only.size, fun k hk => h.only.block k (by omega) (fun hm => by have := hl k hm; omega)⟩
theorem Moves.low {w w' : World} {fp fp' : List Nat} (h : Moves w fp w' fp') {base : Nat} (hl : ∀ k ∈ fp, base ≤ k) (hb : base ≤ w.heap.size) : ∀ k ∈ fp', base ≤ k := by
  intro k hk
  rcases h.fresh k hk with h1 | h1
  · exact hl k h1
  · omega

/-! ### files -/
def ptrElem : Value → Option (DataW Unit × List MemPlace)
  | .pointer none => some (.nil, [])
  | .pointer (some ⟨F, 0, none⟩) => some (.lit (.int .i64 (F : Int)), [])
  | _ => none
theorem ptrElem_nil {v : Value} {ps : List MemPlace} (h : ptrElem v = some (.nil, ps)) : v = .pointer none := by
  unfold ptrElem at h
  split at h
  · rfl
  · simp at h
  · cases h
theorem ptrElem_at {v : Value} {F : Nat} {ps : List MemPlace} (h : ptrElem v = some (.lit (.int .i64 (F : Int)), ps)) : v = .pointer (some ⟨F, 0, none⟩) := by
  unfold ptrElem at h
  split at h
  · simp at h
  · rename_i F'
    have h1 : (F' : Int) = (F : Int) := by have := congrArg (fun o => o.map (·.1)) h; simpa using this
    obtain rfl : F' = F := by omega
    rfl
  · cases h

def u8v (b : UInt8) : Value := .int .u8 b.toNat
structure Ent where
  name : List UInt8
  bytes : List UInt8
  sure : Nat
  blk : Nat
  v : Value
def fileCells (e : Ent) : Array Value := #[e.v, .int .i64 (e.sure : Int)]
structure FileAt (w : World) (e : Ent) : Prop where
  cells : w.heap[e.blk]? = some (.cells (fileCells e) 90 (0, 0))
  row : w.ownsRow 0 5 1 e.v e.bytes.length (e.bytes.map u8v)
  sure : e.sure ≤ e.bytes.length
def Ent.foot (e : Ent) : List Nat := e.blk :: e.v.ownBlock.toList
/-- how many bytes all files have -/
def usedL (L : List Ent) : Nat := (L.map fun e => e.bytes.length).sum
def feet (d m : Nat) (L : List Ent) : List Nat := d :: m :: L.flatMap Ent.foot

theorem ownsRow_lt {w : World} {base e size n g : Nat} {v : Value} {xs : List Value} (h : w.ownsRow base e size v n xs) (hg : v.ownBlock = some g) : g < w.heap.size := by
  rcases h.2 with ⟨rfl, _⟩ | ⟨g', cap, cur, rfl, _, hh, _⟩
  · cases hg
  · have : g' = g := by simpa [Value.ownBlock] using hg
    subst this
    exact (Array.getElem?_eq_some_iff.1 hh).1
theorem ownsRow_kept {w w' : World} {base e size n : Nat} {v : Value} {xs : List Value} (h : w.ownsRow base e size v n xs) (hk : ∀ g, v.ownBlock = some g → w'.heap[g]? = w.heap[g]?) : w'.ownsRow base e size v n xs := by
  refine ⟨h.1, ?_⟩
  rcases h.2 with h1 | ⟨g', cap, cur, rfl, hb, hh, r⟩
  · exact Or.inl h1
  · exact Or.inr ⟨g', cap, cur, rfl, hb, by rw [hk g' rfl]; exact hh, r⟩
theorem FileAt.lt {w : World} {e : Ent} (h : FileAt w e) : ∀ k ∈ e.foot, k < w.heap.size := by
  intro k hk
  unfold Ent.foot at hk
  rcases List.mem_cons.1 hk with rfl | hk
  · exact (Array.getElem?_eq_some_iff.1 h.cells).1
  · exact ownsRow_lt h.row (by simpa using hk)
theorem FileAt.kept {w w' : World} {e : Ent} (h : FileAt w e) (hk : ∀ k ∈ e.foot, w'.heap[k]? = w.heap[k]?) : FileAt w' e :=
  ⟨by rw [hk e.blk (by simp [Ent.foot])]; exact h.cells, ownsRow_kept h.row (fun g hg => hk g (by simp [Ent.foot, hg])), h.sure⟩

/-! ### the disk -/
structure MapIs (D : DataW Unit) (L : List Ent) : Prop where
  has : ∀ x, Maps.has D (.string x) = true ↔ ∃ e ∈ L, e.name = x
  here : ∀ e ∈ L, D.atKey (.string e.name) .nil = .lit (.int .i64 (e.blk : Int))
  size : Maps.size D = L.length
structure DiskAt (w : World) (d m : Nat) (L : List Ent) (room steps fuse fault : Int) (down : Bool) : Prop where
  disk : DiskIs w d m room steps fuse fault down
  map : ∃ D, w.ownsMap Tryz.prog 9 ptrElem m L.length D ∧ MapIs D L
  files : ∀ e ∈ L, FileAt w e
  names : L.Pairwise (fun a b => a.name ≠ b.name)
  short : ∀ e ∈ L, e.name.length ≤ 32
  apart : (feet d m L).Nodup
  few : L.length ≤ 200
  vol : usedL L ≤ 16777216

theorem key9 : Maps.Keyed Tryz.prog 9 := Maps.string_keyed Tryz.underlying9
theorem keyOf9 {s : ByteArray} (h : s.size ≤ maxLen) : keyOf Tryz.prog 9 (.string s) = some (.string s.data.toList) := WideMaps.keyOf_string_mk Tryz.underlying9 h
theorem mem_feet {d m k : Nat} {L : List Ent} : k ∈ feet d m L ↔ k = d ∨ k = m ∨ ∃ e ∈ L, k ∈ e.foot := by
  simp [feet]
theorem DiskAt.lt {w : World} {d m : Nat} {L : List Ent} {room steps fuse fault : Int} {down : Bool} (h : DiskAt w d m L room steps fuse fault down) : ∀ k ∈ feet d m L, k < w.heap.size := by
  intro k hk
  rcases mem_feet.1 hk with rfl | rfl | ⟨e, he, hke⟩
  · exact (Array.getElem?_eq_some_iff.1 h.disk).1
  · obtain ⟨D, ho, _⟩ := h.map
    exact ho.lt
  · exact (h.files e he).lt k hke
/-- the map tightened: no more entries than it has -/
theorem own_tight {w : World} {m n : Nat} {D : DataW Unit} (h : w.ownsMap Tryz.prog 9 ptrElem m n D) : w.ownsMap Tryz.prog 9 ptrElem m (Maps.size D) D := by
  obtain ⟨es, clock, hb, F, _, rfl⟩ := h
  refine ⟨es, clock, hb, F, ?_, rfl⟩
  rw [Maps.size_eq, length_read]
  exact Nat.le_refl _
theorem own_kept {w w' : World} {m n : Nat} {D : DataW Unit} (h : w.ownsMap Tryz.prog 9 ptrElem m n D) (hk : w'.heap[m]? = w.heap[m]?) : w'.ownsMap Tryz.prog 9 ptrElem m n D := by
  obtain ⟨es, clock, hb, F, hs, hD⟩ := h
  exact ⟨es, clock, hk.trans hb, F, hs, hD⟩
/-- the disk's own block turns, nothing else -/
theorem DiskAt.step {w w' : World} {d m : Nat} {L : List Ent} {room steps fuse fault room' steps' fuse' fault' : Int} {down down' : Bool} (h : DiskAt w d m L room steps fuse fault down)
    (hd : DiskIs w' d m room' steps' fuse' fault' down') (hg : w.grownBy w' (some d)) : DiskAt w' d m L room' steps' fuse' fault' down' ∧ Moves w (feet d m L) w' (feet d m L) := by
  have hap := h.apart
  have hkeep : ∀ k, k ∈ feet d m L → k ≠ d → w'.heap[k]? = w.heap[k]? := fun k hk hne => hg.block k (h.lt k hk) (fun e => hne (by injection e))
  have hnd : ∀ k ∈ (m :: L.flatMap Ent.foot), k ≠ d := by
    intro k hk e
    subst e
    exact (List.nodup_cons.1 hap).1 hk
  obtain ⟨D, ho, hM⟩ := h.map
  refine ⟨⟨hd, ⟨D, own_kept ho (hkeep m (by simp [feet]) (hnd m (by simp))), hM⟩, fun e he => (h.files e he).kept (fun k hk => hkeep k (mem_feet.2 (Or.inr (Or.inr ⟨e, he, hk⟩))) (hnd k ?_)), h.names, h.short, h.apart, h.few, h.vol⟩,
    ⟨Only.of_grown hg (fun k e => by injection e with e; subst e; simp [feet]), fun k hk => Or.inl hk⟩⟩
  exact List.mem_cons_of_mem _ (List.mem_flatMap.2 ⟨e, he, hk⟩)
/-- only new blocks are laid -/
theorem DiskAt.below {w w' : World} {d m : Nat} {L : List Ent} {room steps fuse fault : Int} {down : Bool} (h : DiskAt w d m L room steps fuse fault down) (hb : Below w.heap.size w w') : DiskAt w' d m L room steps fuse fault down := by
  have hkeep : ∀ k, k ∈ feet d m L → w'.heap[k]? = w.heap[k]? := fun k hk => hb.block k (h.lt k hk)
  obtain ⟨D, ho, hM⟩ := h.map
  exact ⟨(hkeep d (by simp [feet])).trans h.disk, ⟨D, own_kept ho (hkeep m (by simp [feet])), hM⟩, fun e he => (h.files e he).kept (fun k hk => hkeep k (mem_feet.2 (Or.inr (Or.inr ⟨e, he, hk⟩)))), h.names, h.short, h.apart, h.few, h.vol⟩

/-! ### look-ups -/
theorem look_hit {w : World} {m n : Nat} {D : DataW Unit} {L : List Ent} (ho : w.ownsMap Tryz.prog 9 ptrElem m n D) (hM : MapIs D L) {s : ByteArray} (hs : s.size ≤ maxLen) {e : Ent} (he : e ∈ L) (hn : e.name = s.data.toList) :
    (Instr.lookup 77 (.map (some m)) (.string s) false).run Tryz.prog w = .ok (.pointer (some ⟨e.blk, 0, none⟩)) w := by
  obtain ⟨v, ps, hr, hv⟩ := ho.lookup key9 Tryz.underlying77 (Tryz.zeroValue87 w) (zd := .nil) (zp := []) rfl (keyOf9 hs)
  rw [← hn, hM.here e he] at hv
  rw [hr, ptrElem_at hv]
theorem look_miss {w : World} {m n : Nat} {D : DataW Unit} {L : List Ent} (ho : w.ownsMap Tryz.prog 9 ptrElem m n D) (hM : MapIs D L) {s : ByteArray} (hs : s.size ≤ maxLen) (hn : ∀ e ∈ L, e.name ≠ s.data.toList) :
    (Instr.lookup 77 (.map (some m)) (.string s) false).run Tryz.prog w = .ok (.pointer none) w := by
  obtain ⟨v, ps, hr, hv⟩ := ho.lookup key9 Tryz.underlying77 (Tryz.zeroValue87 w) (zd := .nil) (zp := []) rfl (keyOf9 hs)
  have hh : Maps.has D (.string s.data.toList) = false := by
    cases hb : Maps.has D (.string s.data.toList) with
    | false => rfl
    | true => obtain ⟨e, he, hne⟩ := (hM.has _).1 hb; exact absurd hne (hn e he)
  rw [Maps.atKey_of_not_has hh] at hv
  rw [hr, ptrElem_nil hv]
end Go.Proofs.YtdkgieaanpfhcaaGreatDoor.Dk
namespace Go.Proofs.YtdkgieaanpfhcaaGreatDoor.Dk
open Go.RowKit Go.Maps

theorem new_any (room : Int) (h0 : 0 ≤ room) (h1 : room ≤ 16777216) (w : World) :
    Calls Tryz.prog 11 #[.int .i64 room] w fun e w' => e = .returned (.tuple #[.pointer (some ⟨w.heap.size + 1, 0, none⟩), .int .i64 0]) ∧
      DiskAt w' (w.heap.size + 1) w.heap.size [] room 0 (-1) (-1) false ∧ Below w.heap.size w w' := by
  have hmm := @run_makeMap Tryz.prog
  go_enter Tryz.func11, Tryz.ntmps11
  go_wp2
  go_ret2
  refine ⟨rfl, ⟨?_, ⟨.map [], ?_, ⟨(by intro x; simp [Maps.has_eq]), (by intro e he; cases he), rfl⟩⟩, (by intro e he; cases he), List.Pairwise.nil, (by intro e he; cases he), (by simp [feet]), (by simp), (by simp [usedL])⟩, ?_⟩
  · unfold DiskIs
    rw [show w.heap.size + 1 = (w.alloc (Obj.map #[] 0)).heap.size by simp]
    exact heap_alloc_new _ _
  · exact (World.ownsMap_made w _ _ _).alloc _
  · exact ((Below.refl _ _).alloc (Nat.le_refl _) _).alloc (by simp) _
theorem new_bad (room : Int) (h0 : room < 0 ∨ 16777216 < room) (w : World) :
    Calls Tryz.prog 11 #[.int .i64 room] w fun e w' => e = .returned (.tuple #[.pointer none, .int .i64 2]) ∧ w = w' := by
  by_cases h : room < 0
  · clear h0
    go_enter Tryz.func11, Tryz.ntmps11
    go_wp2
    go_ret2
    exact ⟨rfl, rfl⟩
  · have h1 : 16777216 < room := by omega
    have h2 : 0 ≤ room := by omega
    clear h0 h
    go_enter Tryz.func11, Tryz.ntmps11
    go_wp2
    go_ret2
    exact ⟨rfl, rfl⟩

theorem disk_ne {w : World} {d m : Nat} {L : List Ent} {room steps fuse fault : Int} {down : Bool} (h : DiskAt w d m L room steps fuse fault down) : m ≠ d := by
  intro e
  have := (List.nodup_cons.1 h.apart).1
  exact this (by simp [e])
theorem own_below {w w' : World} {m n B : Nat} {D : DataW Unit} (h : w.ownsMap Tryz.prog 9 ptrElem m n D) (hB : m < B) (hb : Below B w w') : w'.ownsMap Tryz.prog 9 ptrElem m n D := own_kept h (hb.block m hB)
theorem grown_cell {w w' : World} {m d j : Nat} {v : Value} (hg : w.grownBy w' (some m)) (hd : d < w.heap.size) (hne : m ≠ d) (h : w.cell? ⟨d, j, none⟩ = some v) : w'.cell? ⟨d, j, none⟩ = some v := by
  rw [World.cell?_of_block (a := ⟨d, j, none⟩) (hg.block d hd (by intro e; injection e with e; exact hne e.symm))]
  exact h
theorem upd_file {w : World} {m n : Nat} {D : DataW Unit} {s : ByteArray} (hs : s.size ≤ maxLen) (hown : w.ownsMap Tryz.prog 9 ptrElem m n D) (hn : n < maxLen) (F : Nat) :
    ∃ w', (Instr.mapUpdate 77 (.map (some m)) (.string s) (.pointer (some ⟨F, 0, none⟩))).run Tryz.prog w = .ok () w' ∧ w'.ownsMap Tryz.prog 9 ptrElem m (n + 1) (D.put (.string s.data.toList) (.lit (.int .i64 (F : Int)))) ∧ w.grownBy w' (some m) :=
  hown.update key9 Tryz.underlying77 hn (keyOf9 hs) (val := .pointer (some ⟨F, 0, none⟩)) (d := .lit (.int .i64 (F : Int))) (ps := []) rfl
theorem isNm_len {l : List UInt8} (h : isNm l = true) : l.length ≤ 32 := by
  unfold isNm at h; simp at h; omega
theorem isKey (x : List UInt8) : WideAt.IsKeyLit (.string x) := trivial
theorem lit_ne {x y : List UInt8} (h : x ≠ y) : Lit.string x ≠ Lit.string y := fun e => h (by injection e)
/-- a new file in the map -/
theorem mapIs_put {D : DataW Unit} {L : List Ent} (hT : Maps.Tidy D) (hM : MapIs D L) (e0 : Ent) (hne : ∀ e ∈ L, e.name ≠ e0.name) :
    MapIs (D.put (.string e0.name) (.lit (.int .i64 (e0.blk : Int)))) (L ++ [e0]) := by
  have hh : Maps.has D (.string e0.name) = false := by
    cases hb : Maps.has D (.string e0.name) with
    | false => rfl
    | true => obtain ⟨e, he, h⟩ := (hM.has _).1 hb; exact absurd h (hne e he)
  refine ⟨fun x => ?_, fun e he => ?_, ?_⟩
  · by_cases hx : x = e0.name
    · subst hx
      rw [Maps.has_put_same hT.isMap (isKey _)]
      simp
    · rw [Maps.has_put_other (lit_ne hx), hM.has x]
      constructor
      · rintro ⟨e, he, h⟩; exact ⟨e, by simp [he], h⟩
      · rintro ⟨e, he, h⟩
        rcases List.mem_append.1 he with he | he
        · exact ⟨e, he, h⟩
        · have : e = e0 := by simpa using he
          subst this; exact absurd h.symm hx
  · rcases List.mem_append.1 he with he | he
    · rw [Maps.atKey_put_other (lit_ne (hne e he))]; exact hM.here e he
    · have : e = e0 := by simpa using he
      subst this
      exact Maps.atKey_put_same hT.isMap (isKey _) _ _
  · rw [Maps.size_put hT, hh, hM.size]; simp
/-- the end of Create -/
theorem create_end {w1 W w3 : World} {d m F : Nat} {L : List Ent} {D : DataW Unit} {room steps fuse fault : Int} {down : Bool} {x : List UInt8} (h : DiskAt w1 d m L room steps fuse fault down) (hb : Below w1.heap.size w1 W)
    (hF : W.heap[F]? = some (.cells #[.slice none 0 0, .int .i64 0] 90 (0, 0))) (hFl : w1.heap.size ≤ F) (hx : x.length ≤ 32) (hne : ∀ e ∈ L, e.name ≠ x) (hfew : L.length < 200)
    (ho : w1.ownsMap Tryz.prog 9 ptrElem m L.length D) (hM : MapIs D L) (ho3 : w3.ownsMap Tryz.prog 9 ptrElem m (L.length + 1) (D.put (.string x) (.lit (.int .i64 (F : Int))))) (hg : W.grownBy w3 (some m)) :
    DiskAt w3 d m (L ++ [⟨x, [], 0, F, .slice none 0 0⟩]) room steps fuse fault down ∧ Moves w1 (feet d m L) w3 (feet d m (L ++ [⟨x, [], 0, F, .slice none 0 0⟩])) := by
  have hlt := h.lt
  have hml : m < w1.heap.size := hlt m (by simp [feet])
  have hkeep : ∀ k, k < W.heap.size → k ≠ m → w3.heap[k]? = W.heap[k]? := fun k hk hn => hg.block k hk (by intro e; injection e with e; exact hn e)
  have hk1 : ∀ k, k ∈ feet d m L → k ≠ m → w3.heap[k]? = w1.heap[k]? := fun k hk hn => (hkeep k (Nat.lt_of_lt_of_le (hlt k hk) hb.size) hn).trans (hb.block k (hlt k hk))
  have hap := h.apart
  have hnm : ∀ k ∈ L.flatMap Ent.foot, k ≠ m := by
    intro k hk e
    subst e
    exact (List.nodup_cons.1 (List.nodup_cons.1 hap).2).1 hk
  have hFnot : F ∉ feet d m L := fun hF' => by have := hlt F hF'; omega
  have hFlt : F < W.heap.size := (Array.getElem?_eq_some_iff.1 hF).1
  have hft : feet d m (L ++ [⟨x, [], 0, F, .slice none 0 0⟩]) = feet d m L ++ [F] := by simp [feet, Ent.foot, Value.ownBlock]
  refine ⟨⟨?_, ⟨_, by rw [List.length_append]; exact ho3, mapIs_put (ho.tidy key9) hM ⟨x, [], 0, F, .slice none 0 0⟩ hne⟩, ?_, ?_, ?_, ?_, (by simp; omega), (by have := h.vol; simpa [usedL] using this)⟩, ⟨⟨?_, ?_, ?_, ?_, ?_⟩, ?_⟩⟩
  · exact (hk1 d (by simp [feet]) (fun e => disk_ne h e.symm)).trans h.disk
  · intro e he
    rcases List.mem_append.1 he with he | he
    · exact (h.files e he).kept (fun k hk => hk1 k (mem_feet.2 (Or.inr (Or.inr ⟨e, he, hk⟩))) (hnm k (List.mem_flatMap.2 ⟨e, he, hk⟩)))
    · have : e = ⟨x, [], 0, F, .slice none 0 0⟩ := by simpa using he
      subst this
      exact ⟨(hkeep F hFlt (by omega)).trans hF, World.ownsRow_nil _ _ _ _, Nat.le_refl _⟩
  · rw [List.pairwise_append]
    exact ⟨h.names, by simp, fun a ha b hb' => by have : b = ⟨x, [], 0, F, .slice none 0 0⟩ := by simpa using hb'
                                                  subst this; exact hne a ha⟩
  · intro e he
    rcases List.mem_append.1 he with he | he
    · exact h.short e he
    · have : e = ⟨x, [], 0, F, .slice none 0 0⟩ := by simpa using he
      subst this; exact hx
  · rw [hft, List.nodup_append]
    exact ⟨hap, by simp, fun a ha b hb' e => by have : b = F := by simpa using hb'
                                                subst this; subst e; exact hFnot ha⟩
  · exact hg.os.trans hb.os
  · exact hg.tape.trans hb.tape
  · exact hg.output.trans hb.output
  · exact Nat.le_trans hb.size hg.size
  · exact fun k hk hn => (hkeep k (Nat.lt_of_lt_of_le hk hb.size) (fun e => hn (by simp [feet, e]))).trans (hb.block k hk)
  · intro k hk
    rw [hft] at hk
    rcases List.mem_append.1 hk with hk | hk
    · exact Or.inl hk
    · exact Or.inr (by have : k = F := by simpa using hk
                       omega)
theorem create_there {w : World} {d m : Nat} {L : List Ent} {room steps fuse fault : Int} (h : DiskAt w d m L room steps fuse fault false) (s : ByteArray) (hs : Hid (s.size ≤ maxLen))
    (hn : isNm s.data.toList = true) {e : Ent} (he : e ∈ L) (hne : e.name = s.data.toList) :
    Calls Tryz.prog 35 #[.pointer (some ⟨d, 0, none⟩), .string s] w fun e w' => e = .returned (.int .i64 17) ∧ w = w' := by
  obtain ⟨D, ho, hM⟩ := h.map
  have hl := look_hit ho hM hs.out he hne
  have c0 := disk0 h.disk
  have H := Lib.hid h
  clear h ho hM he hne
  go_enter Tryz.func35, Tryz.ntmps35
  go_wp2_with (first
    | (go_at_call 39; with_reducible refine (powered_any H.out.disk).mono ?_; rintro e w1 ⟨rfl, rfl⟩)
    | (go_at_call 67; with_reducible refine (isName_any s hs _).mono ?_; rintro e w1 ⟨rfl, rfl⟩))
  go_ret
  exact ⟨rfl, rfl⟩
set_option maxRecDepth 100000 in
theorem create_ok {w : World} {d m : Nat} {L : List Ent} {room steps fuse fault : Int} (h : DiskAt w d m L room steps fuse fault false) (s : ByteArray) (hs : Hid (s.size ≤ maxLen)) (hs' : Hid (s.size ≤ 281474976710656))
    (hn : isNm s.data.toList = true) (hne : ∀ e ∈ L, e.name ≠ s.data.toList) (hfew : L.length < 200)
    (hf : (fuse == 0) = false) (ha : (fault == 0) = false) (b1 : -1 ≤ fuse) (b2 : -1 ≤ fault) (b3 : fuse ≤ 9223372036854775807) (b4 : fault ≤ 9223372036854775807) (b5 : 0 ≤ steps) (b6 : steps < 9223372036854775807) :
    Calls Tryz.prog 35 #[.pointer (some ⟨d, 0, none⟩), .string s] w fun e w' => e = .returned (.int .i64 0) ∧ ∃ F, DiskAt w' d m (L ++ [⟨s.data.toList, [], 0, F, .slice none 0 0⟩]) room (steps + 1) (tick fuse) (tick fault) false ∧
      Moves w (feet d m L) w' (feet d m (L ++ [⟨s.data.toList, [], 0, F, .slice none 0 0⟩])) := by
  have hstep := Lib.hid (step_ok hf ha b1 b2 b3 b4 b5 b6 h.disk)
  obtain ⟨D, ho, hM⟩ := h.map
  have hl := look_miss ho hM hs.out hne
  have hlen := ho.len Tryz.underlying77
  rw [hM.size] at hlen
  have c0 := disk0 h.disk
  have H := Lib.hid h
  have HO := Lib.hid (And.intro ho hM)
  have hne' := Lib.hid hne
  clear h ho hM hne
  go_enter Tryz.func35, Tryz.ntmps35
  go_wp2_with (first
    | (go_at_call 39; with_reducible refine (powered_any H.out.disk).mono ?_; rintro e w1 ⟨rfl, rfl⟩)
    | (go_at_call 67; with_reducible refine (isName_any s hs _).mono ?_; rintro e w1 ⟨rfl, rfl⟩)
    | (go_at_call 68; with_reducible refine (Hid.out hstep).mono ?_; rintro e w1 ⟨rfl, hd1, hg1⟩))
  obtain ⟨hD1, hMv1⟩ := H.out.step hd1 hg1
  have hown1 := own_kept HO.out.1 (hg1.block m (H.out.lt m (by simp [feet])) (by intro e; injection e with e; exact disk_ne H.out e))
  have c0' := disk0 hD1.disk
  have hdl : d < w1.heap.size := hD1.lt d (by simp [feet])
  have hml : m < w1.heap.size := hD1.lt m (by simp [feet])
  have hdm : m ≠ d := disk_ne hD1
  have HD1 := Lib.hid (And.intro hD1 (And.intro hMv1 hown1))
  clear hD1 hMv1 hown1 hd1 hg1 c0
  go_region_held3 (fun wx => wx.cell? ⟨d, 0, none⟩ = some (.map (some m))) (first | go_keep | (rw [hb2.cell (p := ⟨d, 0, none⟩) (by simp; omega)]; go_keep) | (refine grown_cell hgrow3 (by first | omega | (simp; omega)) hdm ?_; first | assumption | go_keep))
    (first
      | (go_at_call 46; refine (clone_any s _ hs').mono ?_; rintro e w2 ⟨rfl, hb2⟩; have hz2 : w1.heap.size ≤ w2.heap.size := by (have := hb2.size; simp at this; omega))
      | (obtain ⟨w3, hrun3, hown3, hgrow3⟩ := upd_file hs.out ((own_below HD1.out.2.2.drew (by simp; omega) hb2).alloc (Obj.cells #[.slice none 0 0, .int .i64 0] 90)) (by unfold maxLen; omega) w2.heap.size
         rw [hrun3]
         simp only [Result.andThen]
         rw [Oper.upon_skip])
      | (obtain ⟨w3, hrun3, hown3, hgrow3⟩ := upd_file hs.out (own_below (HD1.out.2.2.alloc (Obj.cells #[.slice none 0 0, .int .i64 0] 90)).drew (by simp; omega) hb2) (by unfold maxLen; omega) w1.heap.size
         rw [hrun3]
         simp only [Result.andThen]
         rw [Oper.upon_skip]))
  · go_wp2
    go_ret
    refine ⟨rfl, w2.heap.size, ?_⟩
    obtain ⟨e1, e2⟩ := create_end HD1.out.1 (((Below.refl _ w1).drew.trans hb2).alloc hz2 _) (heap_alloc_new w2 _) hz2 (isNm_len hn) hne'.out hfew HD1.out.2.2 HO.out.2 hown3 hgrow3
    exact ⟨e1, HD1.out.2.1.trans e2⟩
  · go_wp2
    go_ret
    refine ⟨rfl, w1.heap.size, ?_⟩
    obtain ⟨e1, e2⟩ := create_end HD1.out.1 (((Below.refl _ w1).alloc (Nat.le_refl _) _).drew.trans (hb2.mono (by simp))) ((hb2.block w1.heap.size (by simp)).trans (heap_alloc_new w1 _)) (Nat.le_refl _) (isNm_len hn) hne'.out hfew HD1.out.2.2 HO.out.2 hown3 hgrow3
    exact ⟨e1, HD1.out.2.1.trans e2⟩
end Go.Proofs.YtdkgieaanpfhcaaGreatDoor.Dk
namespace Go.Proofs.YtdkgieaanpfhcaaGreatDoor.Dk
open Go.RowKit Go.Maps

theorem file0 {w : World} {e : Ent} (h : FileAt w e) : w.cell? ⟨e.blk, 0, none⟩ = some e.v := cell_in h.cells 0 _ rfl
theorem file1 {w : World} {e : Ent} (h : FileAt w e) : w.cell? ⟨e.blk, 1, none⟩ = some (.int .i64 (e.sure : Int)) := cell_in h.cells 1 _ rfl
/-- a file's slice, as a value -/
theorem file_v {w : World} {e : Ent} (h : FileAt w e) : ∃ a c, e.v = .slice a e.bytes.length c := by
  rcases h.row.2 with ⟨h1, h2⟩ | ⟨g, cap, cur, h1, _⟩
  · exact ⟨none, 0, by rw [h1, h2]⟩
  · exact ⟨_, _, h1⟩
def mkPtr : Option Nat → Value
  | none => .pointer none
  | some F => .pointer (some ⟨F, 0, none⟩)
theorem ptrElem_inv {v : Value} {y : DataW Unit × List MemPlace} (h : ptrElem v = some y) : ∃ c, v = mkPtr c := by
  unfold ptrElem at h
  split at h
  · exact ⟨none, rfl⟩
  · rename_i F; exact ⟨some F, rfl⟩
  · cases h
/-- the bytes of the files that are gone through -/
def doneL (left : Lit → Bool) (L : List Ent) : Nat := usedL (L.filter fun e => !left (.string e.name))
theorem doneL_start {D : DataW Unit} {L : List Ent} (hM : MapIs D L) : doneL (Maps.has D) L = 0 := by
  unfold doneL
  have : L.filter (fun e => !Maps.has D (.string e.name)) = [] := by
    rw [List.filter_eq_nil_iff]
    intro e he
    simp [(hM.has e.name).2 ⟨e, he, rfl⟩]
  rw [this]; rfl
theorem doneL_end {left : Lit → Bool} {L : List Ent} (h : ∀ k, left k = false) : doneL left L = usedL L := by
  unfold doneL
  rw [List.filter_eq_self.2 (by intro e _; simp [h])]
theorem doneL_step {left : Lit → Bool} : ∀ {L : List Ent}, L.Pairwise (fun a b => a.name ≠ b.name) → ∀ {e : Ent}, e ∈ L → left (.string e.name) = true →
    doneL (fun z => left z && !z.sameKey (.string e.name)) L = doneL left L + e.bytes.length := by
  intro L
  induction L with
  | nil => intro _ e he; cases he
  | cons a L ih =>
    intro hp e he hl
    obtain ⟨h1, h2⟩ := List.pairwise_cons.1 hp
    have key : ∀ b : Ent, b.name ≠ e.name → (Lit.string b.name).sameKey (.string e.name) = false := fun b hb => Maps.sameKey_ne (lit_ne hb)
    rcases List.mem_cons.1 he with rfl | he
    · have hs : (Lit.string e.name).sameKey (.string e.name) = true := WideAt.sameKey_self (isKey _)
      have hrest : L.filter (fun b => !(left (.string b.name) && !(Lit.string b.name).sameKey (.string e.name))) = L.filter (fun b => !left (.string b.name)) := by
        apply List.filter_congr
        intro b hb
        rw [key b (fun h => h1 b hb h.symm)]; simp
      unfold doneL
      rw [List.filter_cons, List.filter_cons]
      simp only [hs, hl, hrest]
      simp [usedL]
      omega
    · have hne : a.name ≠ e.name := h1 e he
      have := ih h2 he hl
      unfold doneL at this ⊢
      rw [List.filter_cons, List.filter_cons]
      simp only [key a hne]
      cases hla : left (.string a.name)
      · simp [usedL] at this ⊢; omega
      · simpa using this
theorem doneL_le (left : Lit → Bool) (L : List Ent) : doneL left L ≤ usedL L := by
  unfold doneL
  induction L with
  | nil => exact Nat.le_refl _
  | cons a L ih =>
    rw [List.filter_cons]
    split
    · simp [usedL] at ih ⊢; omega
    · simp [usedL] at ih ⊢; omega
theorem used_nil (w : World) : Calls Tryz.prog 112 #[.pointer none] w fun e w' => e = .returned (.int .i64 0) ∧ w = w' := by
  go_enter Tryz.func112, Tryz.ntmps112
  go_wp2
  go_ret
  exact ⟨rfl, rfl⟩
def UsedRel (w : World) (m : Nat) (L : List Ent) (D : DataW Unit) (s : Value) (wr : World) : Prop :=
  ∃ left cnt, s = .int .i64 ((doneL left L : Nat) : Int) ∧ wr.ranges Tryz.prog 9 ptrElem m w.heap.size L.length D left cnt ∧ (∀ x, left (.string x) = true → ∃ e ∈ L, e.name = x) ∧ Below w.heap.size w wr
theorem used_any {w : World} {d m : Nat} {L : List Ent} {room steps fuse fault : Int} {down : Bool} (h : DiskAt w d m L room steps fuse fault down) :
    Calls Tryz.prog 112 #[.pointer (some ⟨d, 0, none⟩)] w fun e w' => e = .returned (.int .i64 ((usedL L : Nat) : Int)) ∧ Below w.heap.size w w' := by
  obtain ⟨D, ho, hM⟩ := h.map
  have c0 := disk0 h.disk
  have H := Lib.hid (And.intro h (And.intro ho hM))
  clear h ho hM
  go_enter Tryz.func112, Tryz.ntmps112
  go_wp2_with (at_range; refine wpList_range_own _ rfl _ 77 rfl 9 87 key9 Tryz.underlying77 ptrElem m L.length D rfl H.out.2.1 ?_; intro w0 hrg0 hg0 hs0)
  go_frame
  go_loopw [3] (UsedRel w m L D) (fun _ wr => wr.rangeLeft m w.heap.size)
  case atStart => exact ⟨_, _, by rw [doneL_start H.out.2.2]; rfl, hrg0, fun x hx => (H.out.2.2.has x).1 hx, ⟨hg0.os, hg0.tape, hg0.output, hg0.size, fun k hk => hg0.block k hk (by simp)⟩⟩
  case round =>
    obtain ⟨left, cnt, rfl, hrg, hleft, hbr⟩ := hrel
    have hdl := doneL_le left L
    have hvol := H.out.1.vol
    have HR := Lib.hid (And.intro hrg (And.intro hleft hbr))
    clear hrg hleft hbr
    go_wp2_with (first
      | (at_next; refine wpList_next_ranges _ rfl _ rfl 9 key9 ptrElem encStr mkPtr (fun key kl hk => by obtain ⟨x, h1, _⟩ := Maps.keyOf_str Tryz.underlying9 hk; exact ⟨x, h1⟩) (fun v y hv => ptrElem_inv hv) m w.heap.size L.length D left cnt rfl HR.out.1 ?_ ?_))
    · intro _ hl0
      go_wp2
      go_ret
      exact ⟨by rw [← doneL_end hl0]; rfl, HR.out.2.2⟩
    · intro x c kl y1 y2 w1 cnt1 hkey hlk hv hat hrg1 hlt hg1 hs1 hen
      obtain ⟨x', hx1, hx2, _⟩ := Maps.keyOf_str Tryz.underlying9 hkey
      obtain rfl := encStr_inj hx1
      subst hx2
      obtain ⟨e, he, rfl⟩ := HR.out.2.1 x hlk
      have hat' := hat .nil
      rw [H.out.2.2.here e he] at hat'
      subst hat'
      have hc : c = some e.blk := by
        have := ptrElem_at hv
        cases c with
        | none => simp [mkPtr] at this
        | some F => simp [mkPtr] at this; rw [this]
      subst hc
      have hb1 : Below w.heap.size w w1 := HR.out.2.2.trans ⟨hg1.os, hg1.tape, hg1.output, hg1.size, fun k hk => hg1.block k (Nat.lt_of_lt_of_le hk HR.out.2.2.size) (by intro e; injection e with e; omega)⟩
      have hF := (H.out.1.files e he).kept (w' := w1) (fun k hk => hb1.block k ((H.out.1.files e he).lt k hk))
      have f0 := file0 hF
      obtain ⟨va, vc, hev⟩ := file_v hF
      rw [hev] at f0
      have hsum := doneL_step H.out.1.names he hlk
      have hle := doneL_le (fun z => left z && !z.sameKey (.string e.name)) L
      have HS := Lib.hid hsum
      have hbd : doneL left L + e.bytes.length ≤ 16777216 := by rw [← hsum]; omega
      have hm1 : mkPtr (some e.blk) = .pointer (some ⟨e.blk, 0, none⟩) := rfl
      rw [hm1] at hen
      have HX := Lib.hid (And.intro hrg1 (And.intro hb1 hlt))
      clear hsum hle hrg1 hb1 hg1 hs1 hF hev hv hat hlk hkey hlt
      rw [hm1]
      go_wp2
      go_roundw
      case rel => exact ⟨_, cnt1, by rw [HS.out]; go_num, HX.out.1, fun z hz => HR.out.2.1 z (by simp at hz; exact hz.1), HX.out.2.1⟩
      case measure => rw [HX.out.1.left_eq, HR.out.1.left_eq]; exact HX.out.2.2
end Go.Proofs.YtdkgieaanpfhcaaGreatDoor.Dk
