/-
  What waves come back to (season's Back), walked. Conditions: the parts aren't beyond 2^53.
-/
import Derived.Test.YtmecpbgjienidaaSeJ
namespace Go.Proofs.Ytmecpbgjienidaa
open Go.RowKit
open Se Fl
attribute [local go_sem] run_store_float run_store_complex

def iz : Nat → Value := fun _ => .int .i64 0
def outI (s : Nat → Int) (p : Nat) : Nat → Value := fun j => if j < p then .int .i64 (s j) else .int .i64 0
theorem outI_set (s : Nat → Int) (p : Nat) : upd (outI s p) p (.int .i64 (s p)) = outI s (p + 1) := by
  funext j
  unfold upd outI
  by_cases h : j = p
  · subst h; simp
  · have : (j < p + 1) ↔ (j < p) := by omega
    simp only [h, this, if_false]
def BaJ (f : Nat → Cw) (s : Nat → Int) (w : World) (p : Nat) (wr : World) : Prop :=
  Below w.heap.size w wr ∧ B4 wr w.heap.size (fcv f) ∧ B4 wr (w.heap.size + 1) iz ∧ B4 wr (w.heap.size + 1 + 1) (outI s p)
theorem baj_start (f : Nat → Cw) (s : Nat → Int) (w : World) : BaJ f s w 0 (((w.alloc (.cells #[fcv f 0, fcv f 1, fcv f 2, fcv f 3] 26)).alloc (.cells #[iz 0, iz 1, iz 2, iz 3] 37)).alloc (.cells #[iz 0, iz 1, iz 2, iz 3] 37)) := by
  refine ⟨?_, ?_, ?_, ?_⟩
  · exact (((Below.refl _ w).alloc (Nat.le_refl _) _).alloc (by simp) _).alloc (by simp; omega) _
  · have h := B4.new w (fcv f) 26
    exact B4.below h ((((Below.refl (w.heap.size + 1) _).alloc (by simp) _)).alloc (by simp) _) (by omega)
  · have h := B4.new (w.alloc (.cells #[fcv f 0, fcv f 1, fcv f 2, fcv f 3] 26)) iz 37
    rw [show (w.alloc (.cells #[fcv f 0, fcv f 1, fcv f 2, fcv f 3] 26)).heap.size = w.heap.size + 1 by simp] at h
    exact B4.below h (((Below.refl (w.heap.size + 1 + 1) _).alloc (by simp) _)) (by omega)
  · have h := B4.new ((w.alloc (.cells #[fcv f 0, fcv f 1, fcv f 2, fcv f 3] 26)).alloc (.cells #[iz 0, iz 1, iz 2, iz 3] 37)) iz 37
    rw [show ((w.alloc (.cells #[fcv f 0, fcv f 1, fcv f 2, fcv f 3] 26)).alloc (.cells #[iz 0, iz 1, iz 2, iz 3] 37)).heap.size = w.heap.size + 1 + 1 by simp] at h
    exact B4.congr h (fun j hj => by unfold outI; rw [if_neg (by omega)]; rfl)
set_option maxHeartbeats 1000000 in
theorem back_yes (f : Nat → Cw) (X Y : Nat → Int) (hf : WF f X Y) (hx : ∀ j, j < 4 → In53 (X j) ∧ In53 (Y j)) (s : Nat → Int) (hs : ∀ p, p < 4 → qre X Y p 4 = 4 * s p ∧ qim X Y p 4 = 0) (w : World) :
    Calls Try.prog 11 #[.agg #[.complex .f64 (f 0).re (f 0).im, .complex .f64 (f 1).re (f 1).im, .complex .f64 (f 2).re (f 2).im, .complex .f64 (f 3).re (f 3).im]] w fun e w' => e = .returned (.tuple #[.agg #[.int .i64 (s 0), .int .i64 (s 1), .int .i64 (s 2), .int .i64 (s 3)], .bool true]) ∧ Below w.heap.size w w' := by
  have HF := Lib.hid hf
  have HX := Lib.hid hx
  have cQ : Hid (∀ (p : Nat) (_ : p < 4) (W : World), Calls Try.prog 19 #[.agg #[.complex .f64 (f 0).re (f 0).im, .complex .f64 (f 1).re (f 1).im, .complex .f64 (f 2).re (f 2).im, .complex .f64 (f 3).re (f 3).im], .int .i64 p] W fun e w' => e = .returned (.tuple #[.int .i64 (s p), .bool true]) ∧ Below W.heap.size W w') := fun p hp W =>
    (quarter_any f X Y hf hx p hp W).mono fun e w' ⟨hb, h1, _⟩ => by
      obtain ⟨a, b⟩ := hs p hp
      have h2 := h1 ⟨b, by omega⟩
      rw [show qre X Y p 4 / 4 = s p by omega] at h2
      exact ⟨h2, hb⟩
  clear hf hx hs
  have BST := Lib.hid (baj_start f s w)
  go_enter Try.func11, Try.ntmps11
  go_wp2
  go_loop [11] (fun i => ∃ p : Nat, p ≤ 4 ∧ i = .int .i64 p) (fun i => 4 - (intOf i).toNat)
  case atStart => exact ⟨0, by omega, rfl⟩
  case round =>
    obtain ⟨p, hp, rfl⟩ := hrel
    by_cases h4 : p < 4
    · have h4' : (p : Int) < 4 := by omega
      have hix : ∀ W, (Instr.index 26 (.agg #[fcv f 0, fcv f 1, fcv f 2, fcv f 3]) (.int .i64 (p : Int))).run Try.prog W = .ok (.complex .f64 (f p).re (f p).im) W := fun W => index_wv f p h4 W
      have hix2 : ∀ W, (Instr.index 26 (.agg #[.complex .f64 (f 0).re (f 0).im, .complex .f64 (f 1).re (f 1).im, .complex .f64 (f 2).re (f 2).im, .complex .f64 (f 3).re (f 3).im]) (.int .i64 (p : Int))).run Try.prog W = .ok (.complex .f64 (f p).re (f p).im) W := fun W => index_wv f p h4 W
      have c1 := Lib.hid (fun W => fits_any (HF.out p h4).1 (HX.out p h4).1 W)
      have c2 := Lib.hid (fun W => fits_any (HF.out p h4).2 (HX.out p h4).2 W)
      go_wp2_with (first
        | (go_at_call 18; (with_reducible refine (c1.out _).mono ?_); rintro e w1 ⟨rfl, rfl⟩)
        | (go_at_call 18; (with_reducible refine (c2.out _).mono ?_); rintro e w1 ⟨rfl, rfl⟩))
      go_round
      case rel => exact ⟨p + 1, by omega, by go_num⟩
      case measure => simp [intOf]; omega
    · obtain rfl : p = 4 := by omega
      go_wp2
      go_loopw [26] (fun i wr => ∃ p : Nat, p ≤ 4 ∧ i = .int .i64 p ∧ BaJ f s w p wr) (fun i _ => 4 - (intOf i).toNat)
      case atStart => exact ⟨0, by omega, rfl, BST.out⟩
      case round =>
        obtain ⟨p, hp, rfl, hb, hb1, hb2, hb3⟩ := hrel
        have H1 := Lib.hid hb1
        have H2 := Lib.hid hb2
        have H3 := Lib.hid hb3
        clear hb1 hb2 hb3
        by_cases h4 : p < 4
        · have h4' : (p : Int) < 4 := by omega
          have g0 := H1.out.cx (j := 0) (by decide)
          have g1 := H1.out.cx (j := 1) (by decide)
          have g2 := H1.out.cx (j := 2) (by decide)
          have g3 := H1.out.cx (j := 3) (by decide)
          have cq := Lib.hid (fun W => cQ.out p h4 W)
          have hz1 := H1.out.1
          have hz2 := H2.out.1
          have hz3 := H3.out.1
          go_wp2_with (go_at_call 19; (with_reducible refine (cq.out _).mono ?_); rintro e w2 ⟨rfl, hb'⟩; have K3 := Lib.hid (H3.out.below hb' hz3); obtain ⟨hc3, hf3⟩ := K3.out.2 p h4; have HB' := Lib.hid hb'; clear hb')
          refine ⟨⟨p + 1, by omega, by go_num, (hb.trans (HB'.out.mono hb.size)).setCell (by simp; omega) _, (H1.out.below HB'.out H1.out.1).other (by omega) _, (H2.out.below HB'.out H2.out.1).other (by omega) _, ?_⟩, by simp [intOf]; omega⟩
          rw [← outI_set]; exact K3.out.set h4 _
        · obtain rfl : p = 4 := by omega
          have a0 : wr.cell? ⟨w.heap.size + 1 + 1, 0, none⟩ = some (.int .i64 (s 0)) := (H3.out.2 0 (by decide)).1
          have a1 : wr.cell? ⟨w.heap.size + 1 + 1, 1, none⟩ = some (.int .i64 (s 1)) := (H3.out.2 1 (by decide)).1
          have a2 : wr.cell? ⟨w.heap.size + 1 + 1, 2, none⟩ = some (.int .i64 (s 2)) := (H3.out.2 2 (by decide)).1
          have a3 : wr.cell? ⟨w.heap.size + 1 + 1, 3, none⟩ = some (.int .i64 (s 3)) := (H3.out.2 3 (by decide)).1
          obtain ⟨z0, y0⟩ := H2.out.2 0 (by decide)
          obtain ⟨z1, y1⟩ := H2.out.2 1 (by decide)
          obtain ⟨z2, y2⟩ := H2.out.2 2 (by decide)
          obtain ⟨z3, y3⟩ := H2.out.2 3 (by decide)
          clear h4 hp
          go_wp2
          refine bodyPost_ret (v := .tuple #[.agg #[.int .i64 (s 0), .int .i64 (s 1), .int .i64 (s 2), .int .i64 (s 3)], .bool true]) ?_ rfl ⟨rfl, ?_⟩
          · simp [results, Try.results11, go_sem, z0, z1, z2, z3]
          · exact (((hb.setCell (by simp) _).setCell (by simp) _).setCell (by simp) _).setCell (by simp) _
set_option maxHeartbeats 1000000 in
theorem back_no (f : Nat → Cw) (X Y : Nat → Int) (hf : WF f X Y) (hx : ∀ j, j < 4 → In53 (X j) ∧ In53 (Y j)) (hs : ¬ (qim X Y 0 4 = 0 ∧ qre X Y 0 4 % 4 = 0)) (w : World) :
    Calls Try.prog 11 #[.agg #[.complex .f64 (f 0).re (f 0).im, .complex .f64 (f 1).re (f 1).im, .complex .f64 (f 2).re (f 2).im, .complex .f64 (f 3).re (f 3).im]] w fun e w' => e = .returned (.tuple #[.agg #[.int .i64 0, .int .i64 0, .int .i64 0, .int .i64 0], .bool false]) ∧ Below w.heap.size w w' := by
  have HF := Lib.hid hf
  have HX := Lib.hid hx
  have cQ : Hid (∀ (W : World), Calls Try.prog 19 #[.agg #[.complex .f64 (f 0).re (f 0).im, .complex .f64 (f 1).re (f 1).im, .complex .f64 (f 2).re (f 2).im, .complex .f64 (f 3).re (f 3).im], .int .i64 0] W fun e w' => e = .returned (.tuple #[.int .i64 0, .bool false]) ∧ Below W.heap.size W w') := fun W =>
    (quarter_any f X Y hf hx 0 (by decide) W).mono fun e w' ⟨hb, _, h1⟩ => ⟨h1 hs, hb⟩
  clear hf hx hs
  have BST := Lib.hid (baj_start f (fun _ => 0) w)
  go_enter Try.func11, Try.ntmps11
  go_wp2
  go_loop [11] (fun i => ∃ p : Nat, p ≤ 4 ∧ i = .int .i64 p) (fun i => 4 - (intOf i).toNat)
  case atStart => exact ⟨0, by omega, rfl⟩
  case round =>
    obtain ⟨p, hp, rfl⟩ := hrel
    by_cases h4 : p < 4
    · have h4' : (p : Int) < 4 := by omega
      have hix : ∀ W, (Instr.index 26 (.agg #[fcv f 0, fcv f 1, fcv f 2, fcv f 3]) (.int .i64 (p : Int))).run Try.prog W = .ok (.complex .f64 (f p).re (f p).im) W := fun W => index_wv f p h4 W
      have hix2 : ∀ W, (Instr.index 26 (.agg #[.complex .f64 (f 0).re (f 0).im, .complex .f64 (f 1).re (f 1).im, .complex .f64 (f 2).re (f 2).im, .complex .f64 (f 3).re (f 3).im]) (.int .i64 (p : Int))).run Try.prog W = .ok (.complex .f64 (f p).re (f p).im) W := fun W => index_wv f p h4 W
      have c1 := Lib.hid (fun W => fits_any (HF.out p h4).1 (HX.out p h4).1 W)
      have c2 := Lib.hid (fun W => fits_any (HF.out p h4).2 (HX.out p h4).2 W)
      go_wp2_with (first
        | (go_at_call 18; (with_reducible refine (c1.out _).mono ?_); rintro e w1 ⟨rfl, rfl⟩)
        | (go_at_call 18; (with_reducible refine (c2.out _).mono ?_); rintro e w1 ⟨rfl, rfl⟩))
      go_round
      case rel => exact ⟨p + 1, by omega, by go_num⟩
      case measure => simp [intOf]; omega
    · obtain rfl : p = 4 := by omega
      go_wp2
      go_loopw [26] (fun i wr => i = .int .i64 0 ∧ BaJ f (fun _ => 0) w 0 wr) (fun i _ => 4 - (intOf i).toNat)
      case atStart => exact ⟨rfl, BST.out⟩
      case round =>
        obtain ⟨rfl, hb, hb1, hb2, hb3⟩ := hrel
        have H1 := Lib.hid hb1
        have H2 := Lib.hid hb2
        clear hb1 hb2 hb3
        have g0 := H1.out.cx (j := 0) (by decide)
        have g1 := H1.out.cx (j := 1) (by decide)
        have g2 := H1.out.cx (j := 2) (by decide)
        have g3 := H1.out.cx (j := 3) (by decide)
        have hz2 := H2.out.1
        go_wp2_with (go_at_call 19; (with_reducible refine (cQ.out _).mono ?_); rintro e w2 ⟨rfl, hb'⟩; have K2 := Lib.hid (H2.out.below hb' hz2); obtain ⟨z0, y0⟩ := K2.out.2 0 (by decide); obtain ⟨z1, y1⟩ := K2.out.2 1 (by decide); obtain ⟨z2, y2⟩ := K2.out.2 2 (by decide); obtain ⟨z3, y3⟩ := K2.out.2 3 (by decide); have HB' := Lib.hid hb'; clear hb')
        refine bodyPost_ret (v := .tuple #[.agg #[.int .i64 0, .int .i64 0, .int .i64 0, .int .i64 0], .bool false]) ?_ rfl ⟨rfl, ?_⟩
        · simp [results, Try.results11, go_sem, z0, z1, z2, z3]
        · have hbb := hb.trans (HB'.out.mono hb.size)
          exact (((hbb.setCell (by simp) _).setCell (by simp) _).setCell (by simp) _).setCell (by simp) _
end Go.Proofs.Ytmecpbgjienidaa
