/-
  Two waves held against each other; the chapter's example (awake). Conditions: as each theorem states.
-/
import Derived.Test.YtmecpbgjienidaaSeD
import Derived.ChangeKeysEq
import Derived.Deep.QuietTactic
namespace Go.Proofs.Ytmecpbgjienidaa
open Go.RowKit
open Se Fl
attribute [local go_sem] run_store_float run_store_complex

/-- Are two complex numbers the same? -/
def ceq (a b : Cw) : Bool := FloatKind.f64.format.order a.re b.re == some .eq && FloatKind.f64.format.order a.im b.im == some .eq
theorem ceq_of {a b : Cw} {x y v w : Int} (ha : CF a x y) (hb : CF b v w) : ceq a b = (decide (x = v) && decide (y = w)) := by
  unfold ceq
  rw [show FloatKind.f64.format = Ieee.double from rfl, fl_eq ha.1 hb.1, fl_eq ha.2 hb.2]
def weq (f g : Nat → Cw) : Bool := ceq (f 0) (g 0) && ceq (f 1) (g 1) && ceq (f 2) (g 2) && ceq (f 3) (g 3)
theorem weq_yes {f g : Nat → Cw} {X Y : Nat → Int} (hf : WF f X Y) (hg : WF g X Y) : weq f g = true := by
  unfold weq
  rw [ceq_of (hf 0 (by decide)) (hg 0 (by decide)), ceq_of (hf 1 (by decide)) (hg 1 (by decide)), ceq_of (hf 2 (by decide)) (hg 2 (by decide)), ceq_of (hf 3 (by decide)) (hg 3 (by decide))]
  simp
theorem equal_cx (d : Nat) (a b : Cw) (w : World) : (Op.equalIn (d + 1) 24 (.complex .f64 a.re a.im) (.complex .f64 b.re b.im)).run Try.prog w = .ok (ceq a b) w := by
  simp [Op.equalIn, run_underlying Try.underlying24]; rfl
theorem part_w0 (f : Nat → Cw) (w : World) : (part 24 #[fcv f 0, fcv f 1, fcv f 2, fcv f 3] (0 * Try.prog.cellsOf 24)).run Try.prog w = .ok (.complex .f64 (f 0).re (f 0).im) w := by kernel_rfl
theorem part_w1 (f : Nat → Cw) (w : World) : (part 24 #[fcv f 0, fcv f 1, fcv f 2, fcv f 3] (1 * Try.prog.cellsOf 24)).run Try.prog w = .ok (.complex .f64 (f 1).re (f 1).im) w := by kernel_rfl
theorem part_w2 (f : Nat → Cw) (w : World) : (part 24 #[fcv f 0, fcv f 1, fcv f 2, fcv f 3] (2 * Try.prog.cellsOf 24)).run Try.prog w = .ok (.complex .f64 (f 2).re (f 2).im) w := by kernel_rfl
theorem part_w3 (f : Nat → Cw) (w : World) : (part 24 #[fcv f 0, fcv f 1, fcv f 2, fcv f 3] (3 * Try.prog.cellsOf 24)).run Try.prog w = .ok (.complex .f64 (f 3).re (f 3).im) w := by kernel_rfl
theorem items_step {P : Program} {d e n i : Nat} {xs ys : Array Value} {is : List Nat} {x y : Value} {r : Bool} {w : World} (p1 : (part e xs (i * n)).run P w = .ok x w) (p2 : (part e ys (i * n)).run P w = .ok y w)
    (p3 : (Op.equalIn d e x y).run P w = .ok r w) : (Op.eqItems d e n xs ys (i :: is)).run P w = if r then (Op.eqItems d e n xs ys is).run P w else .ok false w := by
  simp only [Op.eqItems, Sem.run_bind, p1, p2, p3, Result.andThen_ok]
  cases r <;> simp
theorem items_end {P : Program} {d e n : Nat} {xs ys : Array Value} {w : World} : (Op.eqItems d e n xs ys []).run P w = .ok true w := by simp [Op.eqItems]
theorem equal_wave (f g : Nat → Cw) (w : World) :
    (Op.equalIn 10000 26 (.agg #[fcv f 0, fcv f 1, fcv f 2, fcv f 3]) (.agg #[fcv g 0, fcv g 1, fcv g 2, fcv g 3])).run Try.prog w = .ok (weq f g) w := by
  obtain ⟨i, hi⟩ : ∃ i, Try.prog.info? 24 = some i := ⟨_, rfl⟩
  rw [run_equalIn_array w 9999 _ _ Try.underlying26 hi, show List.range 4 = [0, 1, 2, 3] from rfl]
  rw [items_step (part_w0 f w) (part_w0 g w) (equal_cx 9998 (f 0) (g 0) w), items_step (part_w1 f w) (part_w1 g w) (equal_cx 9998 (f 1) (g 1) w), items_step (part_w2 f w) (part_w2 g w) (equal_cx 9998 (f 2) (g 2) w), items_step (part_w3 f w) (part_w3 g w) (equal_cx 9998 (f 3) (g 3) w), items_end]
  unfold weq
  cases ceq (f 0) (g 0) <;> cases ceq (f 1) (g 1) <;> cases ceq (f 2) (g 2) <;> cases ceq (f 3) (g 3) <;> rfl

/-! ## the chapter's example -/
def ex : Nat → Cw
  | 0 => ⟨4613937818241073152, 0⟩
  | 1 => ⟨4607182418800017408, 13835058055282163712⟩
  | 2 => ⟨13830554455654793216, 0⟩
  | _ => ⟨4607182418800017408, 4611686018427387904⟩
theorem fl_two : Fl 4611686018427387904 2 := fl_int (z := 2) (by decide)
theorem fl_three : Fl 4613937818241073152 3 := fl_int (z := 3) (by decide)
theorem fl_mtwo : Fl 13835058055282163712 (-2) := by
  have h := fl_int (z := -2) (by decide)
  rwa [show floatOfInt .f64 (-2) = 13835058055282163712 by kernel_rfl] at h
theorem fl_mone : Fl 13830554455654793216 (-1) := by
  have h := fl_int (z := -1) (by decide)
  rwa [show floatOfInt .f64 (-1) = 13830554455654793216 by kernel_rfl] at h
theorem ex_wf : WF ex (wre (smk [1, 2] 2)) (wim (smk [1, 2] 2)) := fun j hj => by
  match j, hj with
  | 0, _ => exact ⟨fl_three, fl_zero⟩
  | 1, _ => exact ⟨fl_one, fl_mtwo⟩
  | 2, _ => exact ⟨fl_mone, fl_zero⟩
  | 3, _ => exact ⟨fl_one, fl_two⟩
theorem fl_turn1 : CF (turnW 1 ⟨4607182418800017408, 0⟩) 0 1 := turnW_cf 1 (c := ⟨4607182418800017408, 0⟩) (x := 1) (y := 0) ⟨fl_one, fl_zero⟩ (by decide) (by decide)
theorem nrow2 (w : World) (x y : Int) (t : TypeId) : NRow (w.alloc (.cells #[.int .i64 x, .int .i64 y] t)) (some ⟨w.heap.size, 0, none⟩) [x, y] := fun _ => by
  refine ⟨_, rfl, by simp, fun i hi => ?_⟩
  have h := heap_alloc_last w (.cells #[.int .i64 x, .int .i64 y] t)
  match i, hi with
  | 0, _ => rw [show (⟨w.heap.size, 0, none⟩ : Addr).add 0 = ⟨w.heap.size, 0, none⟩ from rfl, cell_of_row _ _ 0 _ _ (0, 0) h]; rfl
  | 1, _ => rw [show (⟨w.heap.size, 0, none⟩ : Addr).add 1 = ⟨w.heap.size, 1, none⟩ from rfl, cell_of_row _ _ 1 _ _ (0, 0) h]; rfl
set_option maxHeartbeats 1000000 in
theorem awake33_any (w : World) : Calls Try.prog 6 #[] w fun e w' => e = .returned (.bool true) ∧ Below w.heap.size w w' := by
  have cO : Hid (∀ W : World, NRow W (some ⟨w.heap.size, 0, none⟩) [1, 2] → Calls Try.prog 7 #[.slice (some ⟨w.heap.size, 0, none⟩) 2 2] W (OfY [1, 2] W)) := fun W R => of_yes (some ⟨w.heap.size, 0, none⟩) 2 [1, 2] (by decide) (by intro p hp; simp at hp; unfold rg; omega) (by decide) W R
  have cT : Hid (∀ W : World, Calls Try.prog 15 #[.int .i64 1] W (CxQ (turnW 1 ⟨4607182418800017408, 0⟩) W)) := fun W => turn_any 1 (by decide) (by decide) W
  have hN := Lib.hid (nrow2 w 1 2 2)
  have ht := fl_turn1
  have hte := ceq_of ht (show CF ⟨0, 4607182418800017408⟩ 0 1 from ⟨fl_zero, fl_one⟩)
  clear ht
  generalize turnW 1 ⟨4607182418800017408, 0⟩ = d at *
  have hte2 := Lib.hid hte
  clear hte
  have heq : ∀ (g : Nat → Cw) (W : World), (Op.equalIn 10000 26 (.agg #[.complex .f64 (g 0).re (g 0).im, .complex .f64 (g 1).re (g 1).im, .complex .f64 (g 2).re (g 2).im, .complex .f64 (g 3).re (g 3).im]) (.agg #[.complex .f64 4613937818241073152 0, .complex .f64 4607182418800017408 13835058055282163712, .complex .f64 13830554455654793216 0, .complex .f64 4607182418800017408 4611686018427387904])).run Try.prog W = .ok (weq g ex) W := fun g W => equal_wave g ex W
  go_enter Try.func6, Try.ntmps6
  go_wp2_with (first
    | (go_at_call 7; (with_reducible refine (cO.out _ hN.out).mono ?_); rintro e w1 ⟨g, rfl, hg, hb⟩; have HG := Lib.hid hg; clear hg; have hw := weq_yes HG.out ex_wf)
    | (go_at_call 15; (with_reducible refine (cT.out _).mono ?_); rintro e w2 ⟨rfl, rfl⟩))
  go_ret
  have hz : w.heap.size + 1 ≤ w1.heap.size := by have := hb.size; simp at this; omega
  exact ⟨ret_bool (hte2.out.trans (by decide)), (((Below.refl _ w).alloc (Nat.le_refl _) _).trans (hb.mono (by simp))).alloc (by omega) _⟩
end Go.Proofs.Ytmecpbgjienidaa
