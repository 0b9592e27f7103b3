/-
  Waves put together, and later ones (season's Plus, Later), walked. Conditions: the parts aren't beyond 2^53.
-/
import Derived.Test.YtmecpbgjienidaaSeK
namespace Go.Proofs.Ytmecpbgjienidaa
open Go.RowKit
open Se Fl
attribute [local go_sem] run_store_float run_store_complex

def upTo (f h : Nat → Cw) (p : Nat) : Nat → Cw := fun j => if j < p then h j else f j
theorem upTo_set (f h : Nat → Cw) (p : Nat) : upd (fcv (upTo f h p)) p (.complex .f64 (h p).re (h p).im) = fcv (upTo f h (p + 1)) := by
  funext j
  unfold upd fcv upTo
  by_cases e : j = p
  · subst e; simp
  · have : (j < p + 1) ↔ (j < p) := by omega
    simp only [e, this, if_false]
theorem upTo_at (f h : Nat → Cw) (p : Nat) : upTo f h p p = f p := by unfold upTo; rw [if_neg (by omega)]
theorem upTo_four (f h : Nat → Cw) {j : Nat} (hj : j < 4) : upTo f h 4 j = h j := by unfold upTo; rw [if_pos hj]
def plusW (f g : Nat → Cw) : Nat → Cw := fun j => addW (f j) (g j)
def PlJ (f g : Nat → Cw) (w : World) (p : Nat) (wr : World) : Prop :=
  Below w.heap.size w wr ∧ B4 wr w.heap.size (fcv (upTo f (plusW f g) p)) ∧ B4 wr (w.heap.size + 1) (fcv g) ∧ B4 wr (w.heap.size + 1 + 1) fz
theorem plj_start (f g : Nat → Cw) (w : World) : PlJ f g w 0 (((w.alloc (.cells #[fcv f 0, fcv f 1, fcv f 2, fcv f 3] 26)).alloc (.cells #[fcv g 0, fcv g 1, fcv g 2, fcv g 3] 26)).alloc (.cells #[fz 0, fz 1, fz 2, fz 3] 26)) := by
  refine ⟨?_, ?_, ?_, ?_⟩
  · exact (((Below.refl _ w).alloc (Nat.le_refl _) _).alloc (by simp) _).alloc (by simp; omega) _
  · have h := B4.new w (fcv f) 26
    exact B4.congr (B4.below h ((((Below.refl (w.heap.size + 1) _).alloc (by simp) _)).alloc (by simp) _) (by omega)) (fun j hj => by unfold fcv upTo; rw [if_neg (by omega)])
  · have h := B4.new (w.alloc (.cells #[fcv f 0, fcv f 1, fcv f 2, fcv f 3] 26)) (fcv g) 26
    rw [show (w.alloc (.cells #[fcv f 0, fcv f 1, fcv f 2, fcv f 3] 26)).heap.size = w.heap.size + 1 by simp] at h
    exact B4.below h (((Below.refl (w.heap.size + 1 + 1) _).alloc (by simp) _)) (by omega)
  · have h := B4.new ((w.alloc (.cells #[fcv f 0, fcv f 1, fcv f 2, fcv f 3] 26)).alloc (.cells #[fcv g 0, fcv g 1, fcv g 2, fcv g 3] 26)) fz 26
    rw [show ((w.alloc (.cells #[fcv f 0, fcv f 1, fcv f 2, fcv f 3] 26)).alloc (.cells #[fcv g 0, fcv g 1, fcv g 2, fcv g 3] 26)).heap.size = w.heap.size + 1 + 1 by simp] at h
    exact h
set_option maxHeartbeats 1000000 in
theorem plus_any (f g : Nat → Cw) (X Y V U : Nat → Int) (hf : WF f X Y) (hg : WF g V U) (hs : ∀ j, j < 4 → In53 (X j + V j) ∧ In53 (Y j + U j)) (w : World) :
    Calls Try.prog 12 #[.agg #[.complex .f64 (f 0).re (f 0).im, .complex .f64 (f 1).re (f 1).im, .complex .f64 (f 2).re (f 2).im, .complex .f64 (f 3).re (f 3).im], .agg #[.complex .f64 (g 0).re (g 0).im, .complex .f64 (g 1).re (g 1).im, .complex .f64 (g 2).re (g 2).im, .complex .f64 (g 3).re (g 3).im]] w fun e w' => e = .returned (.agg #[.complex .f64 (plusW f g 0).re (plusW f g 0).im, .complex .f64 (plusW f g 1).re (plusW f g 1).im, .complex .f64 (plusW f g 2).re (plusW f g 2).im, .complex .f64 (plusW f g 3).re (plusW f g 3).im]) ∧ Below w.heap.size w w' := by
  have hrun : ∀ p, p < 4 → cSumBits .add .f64 (f p).re (f p).im (g p).re (g p).im = some ((plusW f g p).re, (plusW f g p).im) := fun p hp => addW_run (hf p hp) (hg p hp) (hs p hp).1 (hs p hp).2
  have HRUN := Lib.hid hrun
  clear hf hg hs hrun
  have BST := Lib.hid (plj_start f g w)
  generalize plusW f g = h at *
  go_enter Try.func12, Try.ntmps12
  go_wp2
  go_loopw [6] (fun i wr => ∃ p : Nat, p ≤ 4 ∧ i = .int .i64 p ∧ Below w.heap.size w wr ∧ B4 wr w.heap.size (fcv (upTo f h p)) ∧ B4 wr (w.heap.size + 1) (fcv g) ∧ B4 wr (w.heap.size + 1 + 1) fz) (fun i _ => 4 - (intOf i).toNat)
  case atStart => exact ⟨0, by omega, rfl, BST.out⟩
  case round =>
    obtain ⟨p, hp, rfl, hb, hb1, hb2, hb3⟩ := hrel
    have H1 := Lib.hid hb1
    have H2 := Lib.hid hb2
    have H3 := Lib.hid hb3
    clear hb1 hb2 hb3
    by_cases h4 : p < 4
    · have h4' : (p : Int) < 4 := by omega
      have c1 := H1.out.cx h4
      rw [upTo_at] at c1
      have c2 := H2.out.cx h4
      have f1 := (H1.out.2 p h4).2
      have hadd : ∀ W, (binOp .add 24 (.complex .f64 (f p).re (f p).im) (.complex .f64 (g p).re (g p).im)).run Try.prog W = .ok (.complex .f64 (h p).re (h p).im) W := fun W => run_complex_sum W .add (.inl rfl) _ _ _ _ _ _ _ _ (HRUN.out p h4)
      have HN : Hid (B4 (wr.setCell ⟨w.heap.size, p, none⟩ (.complex .f64 (h p).re (h p).im)) w.heap.size (fcv (upTo f h (p + 1)))) := by
        rw [← upTo_set]; exact H1.out.set h4 _
      go_wp2
      go_region_with (fail)
      all_goals
        go_wp2
        go_roundw
        case rel => exact ⟨p + 1, by omega, by go_num, (hb.setCell (by simp) _).drew, HN.out.drew, (H2.out.other (by omega) _).drew, (H3.out.other (by omega) _).drew⟩
        case measure => simp [intOf]; omega
    · obtain rfl : p = 4 := by omega
      have a0 := H1.out.cx (j := 0) (by decide)
      have a1 := H1.out.cx (j := 1) (by decide)
      have a2 := H1.out.cx (j := 2) (by decide)
      have a3 := H1.out.cx (j := 3) (by decide)
      rw [upTo_four f h (by decide)] at a0 a1 a2 a3
      obtain ⟨z0, y0⟩ := H3.out.2 0 (by decide)
      obtain ⟨z1, y1⟩ := H3.out.2 1 (by decide)
      obtain ⟨z2, y2⟩ := H3.out.2 2 (by decide)
      obtain ⟨z3, y3⟩ := H3.out.2 3 (by decide)
      clear h4 hp
      go_wp2
      refine bodyPost_ret (v := .agg #[.complex .f64 (h 0).re (h 0).im, .complex .f64 (h 1).re (h 1).im, .complex .f64 (h 2).re (h 2).im, .complex .f64 (h 3).re (h 3).im]) ?_ rfl ⟨rfl, ?_⟩
      · simp [results, Try.results12, go_sem, z0, z1, z2, z3]
      · exact (((hb.setCell (by simp; omega) _).setCell (by simp; omega) _).setCell (by simp; omega) _).setCell (by simp; omega) _

def laterW (r : Nat) (f : Nat → Cw) : Nat → Cw := fun j => turnW ((-((j : Int) * (r : Int))) % 4).toNat (f j)
theorem laj_start (f h : Nat → Cw) (w : World) : Below w.heap.size w ((w.alloc (.cells #[fcv f 0, fcv f 1, fcv f 2, fcv f 3] 26)).alloc (.cells #[fz 0, fz 1, fz 2, fz 3] 26)) ∧
    B4 ((w.alloc (.cells #[fcv f 0, fcv f 1, fcv f 2, fcv f 3] 26)).alloc (.cells #[fz 0, fz 1, fz 2, fz 3] 26)) w.heap.size (fcv (upTo f h 0)) ∧
    B4 ((w.alloc (.cells #[fcv f 0, fcv f 1, fcv f 2, fcv f 3] 26)).alloc (.cells #[fz 0, fz 1, fz 2, fz 3] 26)) (w.heap.size + 1) fz := by
  refine ⟨?_, ?_, ?_⟩
  · exact ((Below.refl _ w).alloc (Nat.le_refl _) _).alloc (by simp) _
  · have h := B4.new w (fcv f) 26
    exact B4.congr (B4.below h ((Below.refl (w.heap.size + 1) _).alloc (by simp) _) (by omega)) (fun j hj => by unfold fcv upTo; rw [if_neg (by omega)])
  · have h := B4.new (w.alloc (.cells #[fcv f 0, fcv f 1, fcv f 2, fcv f 3] 26)) fz 26
    rw [show (w.alloc (.cells #[fcv f 0, fcv f 1, fcv f 2, fcv f 3] 26)).heap.size = w.heap.size + 1 by simp] at h
    exact h
set_option maxHeartbeats 1000000 in
theorem later_any (f : Nat → Cw) (X Y : Nat → Int) (hf : WF f X Y) (hx : ∀ j, j < 4 → In53 (X j) ∧ In53 (Y j)) (n : Int) (n1 : -9223372036854775808 ≤ n) (n2 : n ≤ 9223372036854775807) (w : World) :
    Calls Try.prog 13 #[.agg #[.complex .f64 (f 0).re (f 0).im, .complex .f64 (f 1).re (f 1).im, .complex .f64 (f 2).re (f 2).im, .complex .f64 (f 3).re (f 3).im], .int .i64 n] w fun e w' => e = .returned (.agg #[.complex .f64 (laterW (n % 4).toNat f 0).re (laterW (n % 4).toNat f 0).im, .complex .f64 (laterW (n % 4).toNat f 1).re (laterW (n % 4).toNat f 1).im, .complex .f64 (laterW (n % 4).toNat f 2).re (laterW (n % 4).toNat f 2).im, .complex .f64 (laterW (n % 4).toNat f 3).re (laterW (n % 4).toNat f 3).im]) ∧ Below w.heap.size w w' := by
  have hand := and3 n1 n2
  have hr := turn_lt n
  generalize (n % 4).toNat = r at *
  have HF := Lib.hid hf
  have HX := Lib.hid hx
  clear hf hx n1 n2
  have hlw : ∀ j, laterW r f j = turnW ((-((j : Int) * (r : Int))) % 4).toNat (f j) := fun _ => rfl
  have HL := Lib.hid hlw
  clear hlw
  have BST := Lib.hid (laj_start f (laterW r f) w)
  generalize laterW r f = h at *
  go_enter Try.func13, Try.ntmps13
  go_wp2
  go_loopw [6] (fun i wr => ∃ p : Nat, p ≤ 4 ∧ i = .int .i64 p ∧ Below w.heap.size w wr ∧ B4 wr w.heap.size (fcv (upTo f h p)) ∧ B4 wr (w.heap.size + 1) fz) (fun i _ => 4 - (intOf i).toNat)
  case atStart => exact ⟨0, by omega, rfl, BST.out⟩
  case round =>
    obtain ⟨p, hp, rfl, hb, hb1, hb3⟩ := hrel
    have H1 := Lib.hid hb1
    have H3 := Lib.hid hb3
    clear hb1 hb3
    by_cases h4 : p < 4
    · have h4' : (p : Int) < 4 := by omega
      have c1 := H1.out.cx h4
      rw [upTo_at] at c1
      have f1 := (H1.out.2 p h4).2
      have hneg : IntKind.i64.wrap (-(p : Int)) = -(p : Int) := IntWalk.i64_in _ (by omega)
      have hq : p * r ≤ 9 := Nat.mul_le_mul (by omega : p ≤ 3) hr
      have hq2 : (p : Int) * (r : Int) = ((p * r : Nat) : Int) := by simp
      have hmul : IntKind.i64.wrap (-(p : Int) * (r : Int)) = -((p : Int) * (r : Int)) := by
        rw [Int.neg_mul, hq2]; exact IntWalk.i64_in _ (by omega)
      have ct : ∀ W, Calls Try.prog 20 #[.complex .f64 (f p).re (f p).im, .int .i64 (-((p : Int) * (r : Int)))] W (CxQ (h p) W) := fun W => by
        rw [HL.out p]
        exact turned_any (-((p : Int) * (r : Int))) (by rw [hq2]; omega) (by rw [hq2]; omega) (f p) (X p) (Y p) (HF.out p h4) (HX.out p h4).1 (HX.out p h4).2 W
      have CT := Lib.hid ct
      have HN : Hid (B4 (wr.setCell ⟨w.heap.size, p, none⟩ (.complex .f64 (h p).re (h p).im)) w.heap.size (fcv (upTo f h (p + 1)))) := by
        rw [← upTo_set]; exact H1.out.set h4 _
      clear ct hq hq2
      go_wp2_with (go_at_call 20; (with_reducible refine (CT.out _).mono ?_); rintro e w1 ⟨rfl, rfl⟩)
      exact ⟨⟨p + 1, by omega, by go_num, hb.setCell (by simp) _, HN.out, H3.out.other (by omega) _⟩, by simp [intOf]; omega⟩
    · obtain rfl : p = 4 := by omega
      have a0 := H1.out.cx (j := 0) (by decide)
      have a1 := H1.out.cx (j := 1) (by decide)
      have a2 := H1.out.cx (j := 2) (by decide)
      have a3 := H1.out.cx (j := 3) (by decide)
      rw [upTo_four f h (by decide)] at a0 a1 a2 a3
      obtain ⟨z0, y0⟩ := H3.out.2 0 (by decide)
      obtain ⟨z1, y1⟩ := H3.out.2 1 (by decide)
      obtain ⟨z2, y2⟩ := H3.out.2 2 (by decide)
      obtain ⟨z3, y3⟩ := H3.out.2 3 (by decide)
      clear h4 hp
      go_wp2
      refine bodyPost_ret (v := .agg #[.complex .f64 (h 0).re (h 0).im, .complex .f64 (h 1).re (h 1).im, .complex .f64 (h 2).re (h 2).im, .complex .f64 (h 3).re (h 3).im]) ?_ rfl ⟨rfl, ?_⟩
      · simp [results, Try.results13, go_sem, z0, z1, z2, z3]
      · exact (((hb.setCell (by simp) _).setCell (by simp) _).setCell (by simp) _).setCell (by simp) _
end Go.Proofs.Ytmecpbgjienidaa
