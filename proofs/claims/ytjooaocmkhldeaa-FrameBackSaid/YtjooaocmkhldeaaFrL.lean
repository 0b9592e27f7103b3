/-
  The law FrameBack, walked. Conditions: as each theorem states.
-/
import Derived.Test.YtjooaocmkhldeaaFrK
import Derived.Test.YtjooaocmkhldeaaFrAwake
namespace Go.Proofs.Ytjooaocmkhldeaa.frameBack
open Go.RowKit Go.Shelf
open Go.Proofs.Ytjooaocmkhldeaa
open Vi

attribute [local go_sem] Oper.semAt_some

variable {w : World}
theorem on_below {w w' : World} {A : Option Addr} {l : List (List UInt8)} (h : Hid (SRow w A l)) (hb : Below w.heap.size w w') : Hid (SRow w' A l) := h.out.below hb (Nat.le_refl _)
/-- The two boxes of a law: its row's, and its answer's. -/
def Bx (w : World) (A : Option Addr) (c m : Nat) (v : Bool) (W : World) : Prop :=
  W.heap[w.heap.size]? = some (.cells #[.slice A m c] 35) ∧ W.heap[w.heap.size + 1]? = some (.cells #[.bool v] 4) ∧ Below w.heap.size w W
theorem bx_start (w : World) (A : Option Addr) (c m : Nat) : Hid (Bx w A c m false ((w.alloc (.cells #[.slice A m c] 35)).alloc (.cells #[.bool false] 4))) :=
  ⟨(Below.heap_alloc _ _ _ (by simp)).trans (heap_alloc_last w _), by
    have := heap_alloc_last (w.alloc (.cells #[.slice A m c] 35)) (.cells #[.bool false] 4)
    rwa [World.size_alloc] at this, ((Below.refl _ w).alloc (Nat.le_refl _) _).alloc (by simp) _⟩
theorem Bx.lt {w W : World} {A : Option Addr} {c m : Nat} {v : Bool} (h : Bx w A c m v W) : w.heap.size + 1 < W.heap.size := (Array.getElem?_eq_some_iff.1 h.2.1).1
theorem bx_on {w W W' : World} {A : Option Addr} {c m : Nat} {v : Bool} (h : Hid (Bx w A c m v W)) (hb : Below W.heap.size W W') : Hid (Bx w A c m v W') :=
  ⟨(hb.block _ (by have := h.out.lt; omega)).trans h.out.1, (hb.block _ h.out.lt).trans h.out.2.1, h.out.2.2.trans (hb.mono h.out.2.2.size)⟩
theorem bx_cells {w W : World} {A : Option Addr} {c m : Nat} {v : Bool} (h : Hid (Bx w A c m v W)) : W.cell? ⟨w.heap.size, 0, none⟩ = some (.slice A m c) ∧ W.cell? ⟨w.heap.size + 1, 0, none⟩ = some (.bool v) ∧ W.frozen? ⟨w.heap.size + 1, 0, none⟩ = false :=
  ⟨cell_in h.out.1 0 _ rfl, cell_in h.out.2.1 0 _ rfl, free_in h.out.2.1 0⟩
/-- The answer's box is read at a plain return. -/
theorem ret_box {n : Nat} {w W : World} {tmps : Array Value} {v : Bool} {R : Ending → World → Prop} (ht : tmps[4]? = some (.pointer (some ⟨w.heap.size + 1, 0, none⟩))) (hc : W.cell? ⟨w.heap.size + 1, 0, none⟩ = some (.bool v)) (hR : R (.returned (.bool v)) W) :
    bodyPostM Fence.wide n Try.prog Try.f5 R Exit.ret { tmps := tmps, defers := [] } W := by
  refine ⟨.bool v, ?_, hR⟩
  have hres := Try.results5
  simp [results, hres, go_sem, ht, hc]
set_option maxRecDepth 100000 in
set_option maxHeartbeats 2000000 in
theorem many_in (n : Nat) (hn : 4 ≤ n) (A : Option Addr) (c : Nat) (l : List (List UInt8)) (hl : 20 < l.length) (hlm : l.length ≤ 9223372036854775807) (cut : Int) (w : World) :
    CallsIn Fence.wide n Try.prog 5 #[.slice A l.length c, .int .i64 cut] w fun e W' => e = .returned (.bool true) ∧ Below w.heap.size w W' := by
  have h1 : 1 ≤ n := by omega
  refine callsIn_of_wp_marks Try.func5 rfl trivial ?_ rfl
  simp only [Try.ntmps5, List.size_toArray, List.length_cons, List.length_nil, Nat.reduceAdd, Nat.reduceSub, Array.replicate_succ, Array.replicate_zero, List.push_toArray, List.append_toArray, List.nil_append, List.cons_append]
  gi_wp2_with (first | (refine ⟨trivial, ?_⟩; gi_at_call 7; refine (callsIn_wide.2 (awake_any _)).mono ?_; rintro e w1 ⟨rfl, hb1⟩; have B1 := bx_on (bx_start w A c l.length) hb1; obtain ⟨hc0, hc1, hf1⟩ := bx_cells B1))
  refine ret_box rfl (World.cell?_setCell_same' _ _ _ (by rw [hc1]; rfl)) ⟨rfl, B1.out.2.2.setCell (p := ⟨w.heap.size + 1, 0, none⟩) (by simp) _⟩
theorem long_at {l : List (List UInt8)} (h : ¬ ∀ s ∈ l, s.length ≤ 2000) : ∃ k, ∃ hk : k < l.length, 2000 < l[k].length ∧ ∀ i (hi : i < l.length), i < k → l[i].length ≤ 2000 := by
  induction l with
  | nil => exact absurd (fun s hs => by cases hs) h
  | cons x l ih =>
    by_cases hx : x.length ≤ 2000
    · obtain ⟨k, hk, h1, h2⟩ := ih (fun h' => h (fun s hs => by
        rcases List.mem_cons.1 hs with rfl | hs
        · exact hx
        · exact h' s hs))
      refine ⟨k + 1, by simp; omega, by simpa using h1, fun i hi hlt => ?_⟩
      match i with
      | 0 => simpa using hx
      | i + 1 => simpa using h2 i (by simpa using hi) (by omega)
    · exact ⟨0, by simp, by simp; omega, fun i hi hlt => by omega⟩
set_option maxRecDepth 100000 in
set_option maxHeartbeats 2000000 in
theorem long_in (n : Nat) (hn : 4 ≤ n) (A : Option Addr) (c : Nat) (l : List (List UInt8)) (hl : l.length ≤ 20) (RA : Hid (SRow w A l)) (k : Nat) (hk : k < l.length) (hlong : 2000 < l[k].length) (hmx : l[k].length ≤ 9223372036854775807) (hsh : ∀ i (hi : i < l.length), i < k → l[i].length ≤ 2000) (cut : Int) :
    CallsIn Fence.wide n Try.prog 5 #[.slice A l.length c, .int .i64 cut] w fun e W' => e = .returned (.bool true) ∧ Below w.heap.size w W' := by
  have hbz := bs_size
  have h1 : 1 ≤ n := by omega
  refine callsIn_of_wp_marks Try.func5 rfl trivial ?_ rfl
  simp only [Try.ntmps5, List.size_toArray, List.length_cons, List.length_nil, Nat.reduceAdd, Nat.reduceSub, Array.replicate_succ, Array.replicate_zero, List.push_toArray, List.append_toArray, List.nil_append, List.cons_append]
  gi_wp2_with (first | (refine ⟨trivial, ?_⟩; gi_at_call 7; refine (callsIn_wide.2 (awake_any _)).mono ?_; rintro e w1 ⟨rfl, hb1⟩; have B1 := bx_on (bx_start w A c l.length) hb1; obtain ⟨hc0, hc1, hf1⟩ := bx_cells B1))
  have RA1 := on_below (on_below RA (((Below.refl _ w).alloc (Nat.le_refl _) (.cells #[.slice A l.length c] 35)).alloc (by simp) (.cells #[.bool false] 4))) hb1
  obtain ⟨a, rfl, hab, hca⟩ := RA1.out (by omega)
  have HC := Lib.hid hca
  clear hca
  gi_loop [23] (fun i => ∃ j : Nat, j ≤ k ∧ i = .int .i64 j) (fun i => l.length - (intOf i).toNat)
  case atStart => exact ⟨0, by omega, rfl⟩
  case round =>
    obtain ⟨j, hj, rfl⟩ := hrel
    have x0 := HC.out j (by omega)
    by_cases hjk : j < k
    · have hs := hsh j (by omega) hjk
      generalize l[j]'(by omega) = s at x0 hs
      gi_wp2
      exact ⟨⟨j + 1, by omega, by go_num⟩, by simp [intOf]; omega⟩
    · obtain rfl : j = k := by omega
      generalize l[j] = s at x0 hlong hmx
      gi_wp2
      refine ret_box rfl (World.cell?_setCell_same' _ _ _ (by rw [hc1]; rfl)) ⟨rfl, B1.out.2.2.setCell (p := ⟨w.heap.size + 1, 0, none⟩) (by simp) _⟩
end Go.Proofs.Ytjooaocmkhldeaa.frameBack
