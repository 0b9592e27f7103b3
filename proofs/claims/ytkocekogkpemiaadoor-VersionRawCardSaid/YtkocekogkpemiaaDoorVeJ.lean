/-
  The examples of the law's package on versions: the Go text walked. Conditions: as each theorem states.
-/
import Derived.Test.YtkocekogkpemiaaDoorVeI
import Derived.Test.YtkocekogkpemiaaDoorEdJ
namespace Go.Proofs.YtkocekogkpemiaaDoor.Ve
open Go.RowKit
open Go.Proofs.YtkocekogkpemiaaDoor
open Vi Ba Ed

def xa : Fil := ⟨1, 3, 0, 0, ⟨#[97]⟩, ⟨#[98]⟩⟩
theorem xa_ok : xa.ok := by unfold xa; exact ⟨by decide, by decide, by decide, by decide, by decide, by decide, by decide⟩
theorem xa_chk : chkA xa = 0 := by decide
theorem right_none : right (fun _ => []) := ⟨fun i hi j hj => absurd hj (by simp), by simp [nums]⟩
theorem rightz_any (w : World) : Calls Tryd.prog 6 #[.agg #[.slice none 0 0, .slice none 0 0, .slice none 0 0, .slice none 0 0]] w (QPost w (.bool true)) := by
  refine (right_any (fun _ => []) (fun _ => none) (fun _ => 0) ⟨fun i hi => frow_nil _ _, fun i hi a ha => (by cases ha), fun i hi => (by decide)⟩).mono ?_
  rintro e w' ⟨⟨b, rfl, hb⟩, hbl⟩
  have : b = true := hb.2 right_none
  subst this
  exact ⟨rfl, hbl⟩
theorem count_one (x : Fil) (A : Option Addr) (c : Nat) (w : World) : Calls Tryd.prog 10 #[.agg #[.slice none 0 0, .slice A 1 c, .slice none 0 0, .slice none 0 0]] w (QPost w (.int .i64 1)) := by
  have h := count_any (L1 x) (fun i => if i = 1 then A else none) (fun i => if i = 1 then c else 0) (fun i hi => by
    by_cases e : i = 1
    · subst e; show [x].length ≤ _; simp
    · simp [L1, e]) w
  rw [show (nums (L1 x) 4).length = 1 by simp [nums, L1]] at h
  exact h
theorem pick_at (w : World) : Calls Tryd.prog 8 #[.agg #[.slice none 0 0, .slice none 0 0, .slice none 0 0, .slice none 0 0], .int .i64 0, .int .i64 0] w (QPost w (.tuple #[.agg #[.int .i64 0, .slice none 0 0, .slice none 0 0], .bool false])) := pick_zero w
theorem aw12 (w : World) (h : Tab w) : Calls Tryd.prog 11 #[] w (BoPost w true) := by
  have HA := Lib.hid (awake_any w h)
  go_enter Tryd.func11, Tryd.ntmps11
  go_wp2_with (go_at_call 26; (with_reducible refine HA.out.mono ?_); rintro e w2 ⟨rfl, hb2⟩)
  go_ret
  exact ⟨rfl, hb2⟩
theorem zbox {W : World} {b : Nat} (h : W.heap[b]? = some (.cells #[.slice none 0 0, .slice none 0 0, .slice none 0 0, .slice none 0 0] 26 (0, 0))) :
    W.cell? ⟨b, 0, none⟩ = some (.slice none 0 0) ∧ W.cell? ⟨b, 1, none⟩ = some (.slice none 0 0) ∧ W.cell? ⟨b, 2, none⟩ = some (.slice none 0 0) ∧ W.cell? ⟨b, 3, none⟩ = some (.slice none 0 0) :=
  ⟨cell_in h 0 _ rfl, cell_in h 1 _ rfl, cell_in h 2 _ rfl, cell_in h 3 _ rfl⟩
theorem kept1 {W W' : World} {b : Nat} {o : Obj} (h : W.heap[b]? = some o) (hb : Below W.heap.size W W') : W'.heap[b]? = some o := (hb.block b (Array.getElem?_eq_some_iff.1 h).1).trans h
theorem app_at (W : World) : Calls Tryd.prog 9 #[.agg #[.slice none 0 0, .slice none 0 0, .slice none 0 0, .slice none 0 0], .agg #[.int .u64 0, .int .u64 0, .int .u64 0, .slice (some ⟨W.heap.size, 0, none⟩) 1 1, .slice none 0 0]]
    (W.alloc (.cells #[.int .i64 1, .int .u64 3, .int .u64 0, .int .u64 0, .string ⟨#[97]⟩, .string ⟨#[98]⟩] 45)) (ApPost (W.alloc (.cells #[.int .i64 1, .int .u64 3, .int .u64 0, .int .u64 0, .string ⟨#[97]⟩, .string ⟨#[98]⟩] 45)) xa) :=
  apply_one xa_ok rfl xa_chk (by decide) (by decide) (by simp) (at_cells W xa)
set_option maxHeartbeats 1000000 in
theorem awake13 (w : World) (h : Tab w) : Calls Tryd.prog 4 #[] w (BoPost w true) := by
  have HP := Lib.hid pick_at
  have HA := Lib.hid fun (W : World) (b : Nat) (hb : W.heap.size = b) => (by subst hb; exact app_at W : Calls Tryd.prog 9 #[.agg #[.slice none 0 0, .slice none 0 0, .slice none 0 0, .slice none 0 0], .agg #[.int .u64 0, .int .u64 0, .int .u64 0, .slice (some ⟨b, 0, none⟩) 1 1, .slice none 0 0]]
    (W.alloc (.cells #[.int .i64 1, .int .u64 3, .int .u64 0, .int .u64 0, .string ⟨#[97]⟩, .string ⟨#[98]⟩] 45)) (ApPost (W.alloc (.cells #[.int .i64 1, .int .u64 3, .int .u64 0, .int .u64 0, .string ⟨#[97]⟩, .string ⟨#[98]⟩] 45)) xa))
  have HR := Lib.hid rightz_any
  have HC := Lib.hid fun A c => count_one xa A c
  have H12 := Lib.hid aw12
  replace h := Lib.hid h
  have Z0 := Lib.hid (MapKept.heap_alloc w zobj).1
  have B0 := Lib.hid ((Below.refl w.heap.size w).alloc (Nat.le_refl _) zobj)
  go_enter Tryd.func4, Tryd.ntmps4
  go_wp2_with (first
    | (go_at_call 8; (with_reducible refine (HP.out _).mono ?_); rintro e w2 ⟨rfl, hb2⟩; have Z2 := Lib.hid (kept1 (kept1 Z0.out hb2) ((Below.refl _ w2).alloc (Nat.le_refl _) (.cells #[.int .i64 0, .slice none 0 0, .slice none 0 0] 38))); obtain ⟨y0, y1, y2, y3⟩ := zbox Z2.out; have B2 := Lib.hid (B0.out.trans (hb2.mono B0.out.size)); clear hb2)
    | (go_at_call 9; (with_reducible refine (HA.out _ _ (by simp)).mono ?_); rintro e w3 ⟨A, c, rfl, hf3, hb3⟩; have Z3 := Lib.hid (kept1 (kept1 Z2.out (one_then hb3)) ((Below.refl _ w3).alloc (Nat.le_refl _) (.cells #[.slice none 0 0, .slice A 1 c, .slice none 0 0, .slice none 0 0] 26))); obtain ⟨y0, y1, y2, y3⟩ := zbox Z3.out; have V3 := Lib.hid (MapKept.heap_alloc w3 (.cells #[.slice none 0 0, .slice A 1 c, .slice none 0 0, .slice none 0 0] 26)).1; have B3 := Lib.hid (((B2.out.trans ((one_then (one_then hb3)).mono B2.out.size)).alloc (Nat.le_trans B2.out.size (one_then (one_then hb3)).size) (.cells #[.slice none 0 0, .slice A 1 c, .slice none 0 0, .slice none 0 0] 26))); clear hf3 hb3)
    | (go_at_call 6; (with_reducible refine (HR.out _).mono ?_); rintro e w4 ⟨rfl, hb4⟩; have V4 := Lib.hid (kept1 V3.out hb4); have v0 := cell_in V4.out 0 _ rfl; have v1 := cell_in V4.out 1 _ rfl; have v2 := cell_in V4.out 2 _ rfl; have v3 := cell_in V4.out 3 _ rfl; have B4 := Lib.hid (B3.out.trans (hb4.mono B3.out.size)); clear hb4)
    | (go_at_call 10; (with_reducible refine (HC.out _ _ _).mono ?_); rintro e w5 ⟨rfl, hb5⟩; have B5 := Lib.hid (B4.out.trans (hb5.mono B4.out.size)); clear hb5)
    | (go_at_call 11; (with_reducible refine (H12.out _ (h.out.on B5.out)).mono ?_); rintro e w6 ⟨rfl, hb6⟩; have B6 := Lib.hid (B5.out.trans (hb6.mono B5.out.size)); clear hb6))
  go_ret
  exact ⟨rfl, B6.out⟩
end Go.Proofs.YtkocekogkpemiaaDoor.Ve
