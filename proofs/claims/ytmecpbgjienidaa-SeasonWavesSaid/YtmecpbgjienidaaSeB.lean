/-
  season's waves of a row of four sums, walked. Conditions: the sums' sizes aren't beyond 2^53 together.
-/
import Derived.Test.YtmecpbgjienidaaSeA
import Derived.StillTailTactics
import Derived.Deep.RegionHeldLaw
import Derived.Deep.WholeRow
namespace Go.Proofs.Ytmecpbgjienidaa
open Go.RowKit
open Se Fl

attribute [local go_sem] run_store_float run_store_complex
/-- Four cells in memory. -/
def B4 (w : World) (b : Nat) (v : Nat → Value) : Prop := b < w.heap.size ∧ ∀ j, j < 4 → w.cell? ⟨b, j, none⟩ = some (v j) ∧ w.frozen? ⟨b, j, none⟩ = false
theorem B4.below {w w' : World} {b n : Nat} {v : Nat → Value} (h : B4 w b v) (hb : Below n w w') (hn : b < n) : B4 w' b v :=
  ⟨Nat.lt_of_lt_of_le h.1 hb.size, fun j hj => ⟨(hb.cell (p := ⟨b, j, none⟩) hn).trans (h.2 j hj).1, (hb.frozen (p := ⟨b, j, none⟩) hn).trans (h.2 j hj).2⟩⟩
def upd (v : Nat → Value) (k : Nat) (x : Value) : Nat → Value := fun j => if j = k then x else v j
theorem B4.set {w : World} {b k : Nat} {v : Nat → Value} (h : B4 w b v) (hk : k < 4) (x : Value) : B4 (w.setCell ⟨b, k, none⟩ x) b (upd v k x) := by
  refine ⟨by simpa using h.1, fun j hj => ⟨?_, by rw [World.frozen?_setCell]; exact (h.2 j hj).2⟩⟩
  unfold upd
  by_cases e : j = k
  · subst e
    rw [World.cell?_setCell_same _ _ _ (h.2 j hj).1]; simp
  · rw [World.cell?_setCell_other _ _ _ _ (by intro e1; injection e1 with _ e2 _; omega), (h.2 j hj).1]; simp [e]
theorem B4.other {w : World} {b b' k : Nat} {v : Nat → Value} (h : B4 w b v) (hk : b ≠ b') (x : Value) : B4 (w.setCell ⟨b', k, none⟩ x) b v := by
  refine ⟨by simpa using h.1, fun j hj => ⟨?_, by rw [World.frozen?_setCell]; exact (h.2 j hj).2⟩⟩
  rw [World.cell?_setCell_other _ _ _ _ (by intro e1; injection e1 with e2 _ _; omega)]; exact (h.2 j hj).1
theorem B4.drew {w : World} {b : Nat} {v : Nat → Value} (h : B4 w b v) : B4 w.drew b v := h
theorem four_at (v : Nat → Value) (j : Nat) (h : j < 4) : (#[v 0, v 1, v 2, v 3] : Array Value)[j]? = some (v j) := by
  match j, h with
  | 0, _ => rfl
  | 1, _ => rfl
  | 2, _ => rfl
  | 3, _ => rfl
theorem B4.new (w : World) (v : Nat → Value) (t : TypeId) : B4 (w.alloc (.cells #[v 0, v 1, v 2, v 3] t)) w.heap.size v := by
  refine ⟨by simp, fun j hj => ⟨?_, ?_⟩⟩
  · rw [cell_of_row _ _ j _ _ (0, 0) (heap_alloc_last w _)]; exact four_at v j hj
  · unfold World.frozen?; rw [heap_alloc_last w _]; simp
theorem B4.congr {w : World} {b : Nat} {v v' : Nat → Value} (h : B4 w b v) (e : ∀ j, j < 4 → v j = v' j) : B4 w b v' :=
  ⟨h.1, fun j hj => by rw [← e j hj]; exact h.2 j hj⟩

def fz : Nat → Value := fun _ => .complex .f64 0 0
def fcv (f : Nat → Cw) : Nat → Value := fun j => .complex .f64 (f j).re (f j).im
theorem B4.cx {w : World} {b j : Nat} {g : Nat → Cw} (h : B4 w b (fcv g)) (hj : j < 4) : w.cell? ⟨b, j, none⟩ = some (.complex .f64 (g j).re (g j).im) := (h.2 j hj).1
/-- A wave: four complex numbers. -/
def wv (f : Nat → Cw) : Value := .agg #[fcv f 0, fcv f 1, fcv f 2, fcv f 3]
def WF (f : Nat → Cw) (X Y : Nat → Int) : Prop := ∀ j, j < 4 → CF (f j) (X j) (Y j)
/-- A wave is answered; memory grows. -/
def WvQ (X Y : Nat → Int) (w : World) (e : Ending) (w' : World) : Prop := ∃ g : Nat → Cw, e = .returned (wv g) ∧ WF g X Y ∧ Below w.heap.size w w'

theorem index_w0 (f : Nat → Cw) (w : World) : (Instr.index 26 (.agg #[fcv f 0, fcv f 1, fcv f 2, fcv f 3]) (.int .i64 ((0 : Nat) : Int))).run Try.prog w = .ok (fcv f 0) w := by kernel_rfl
theorem index_w1 (f : Nat → Cw) (w : World) : (Instr.index 26 (.agg #[fcv f 0, fcv f 1, fcv f 2, fcv f 3]) (.int .i64 ((1 : Nat) : Int))).run Try.prog w = .ok (fcv f 1) w := by kernel_rfl
theorem index_w2 (f : Nat → Cw) (w : World) : (Instr.index 26 (.agg #[fcv f 0, fcv f 1, fcv f 2, fcv f 3]) (.int .i64 ((2 : Nat) : Int))).run Try.prog w = .ok (fcv f 2) w := by kernel_rfl
theorem index_w3 (f : Nat → Cw) (w : World) : (Instr.index 26 (.agg #[fcv f 0, fcv f 1, fcv f 2, fcv f 3]) (.int .i64 ((3 : Nat) : Int))).run Try.prog w = .ok (fcv f 3) w := by kernel_rfl
theorem index_wv (f : Nat → Cw) (k : Nat) (hk : k < 4) (w : World) : (Instr.index 26 (.agg #[fcv f 0, fcv f 1, fcv f 2, fcv f 3]) (.int .i64 (k : Int))).run Try.prog w = .ok (.complex .f64 (f k).re (f k).im) w := by
  match k, hk with
  | 0, _ => exact index_w0 f w
  | 1, _ => exact index_w1 f w
  | 2, _ => exact index_w2 f w
  | 3, _ => exact index_w3 f w

/-- What stands in the four places behind the rounds below m, and p of the round m. -/
def outW (f : Nat → Cw) (m p : Nat) : Nat → Value := fun j => if j < m then fcv (fun m => accW f m 4) j else if j = m then .complex .f64 (accW f m p).re (accW f m p).im else .complex .f64 0 0
theorem outW_next (f : Nat → Cw) (m : Nat) : outW f m 4 = outW f (m + 1) 0 := by
  funext j
  unfold outW fcv
  by_cases h1 : j < m
  · rw [if_pos h1, if_pos (by omega)]
  · by_cases h2 : j = m
    · subst h2; rw [if_neg h1, if_pos rfl, if_pos (by omega)]
    · rw [if_neg h1, if_neg h2, if_neg (by omega)]
      by_cases h3 : j = m + 1
      · rw [if_pos h3]; rfl
      · rw [if_neg h3]
theorem outW_set (f : Nat → Cw) (m p : Nat) (x : Value) (hx : x = .complex .f64 (accW f m (p + 1)).re (accW f m (p + 1)).im) : upd (outW f m p) m x = outW f m (p + 1) := by
  funext j
  unfold upd outW
  by_cases h : j = m
  · subst h; simp [hx]
  · simp [h]
def WaJ (f : Nat → Cw) (w : World) (m p : Nat) (wr : World) : Prop :=
  Below w.heap.size w wr ∧ B4 wr w.heap.size (fcv f) ∧ B4 wr (w.heap.size + 1) fz ∧ B4 wr (w.heap.size + 1 + 1) (outW f m p)
def wavesW (f : Nat → Cw) : Nat → Cw := fun m => accW f m 4

set_option maxHeartbeats 1000000 in
theorem waves_any (f : Nat → Cw) (s : Nat → Int) (hf : WF f s (fun _ => 0)) (hs : szs s 4 ≤ 9007199254740992) (w : World) :
    Calls Try.prog 17 #[wv f] w fun e w' => e = .returned (wv (wavesW f)) ∧ Below w.heap.size w w' := by
  have HF := Lib.hid hf
  have HS := Lib.hid hs
  clear hf hs
  refine (show Calls Try.prog 17 #[.agg #[fcv f 0, fcv f 1, fcv f 2, fcv f 3]] w _ from ?_)
  go_enter Try.func17, Try.ntmps17
  go_wp2
  go_loopw [7] (fun i wr => ∃ m : Nat, m ≤ 4 ∧ i = .int .i64 m ∧ WaJ f w m 0 wr) (fun i _ => 4 - (intOf i).toNat)
  case atStart =>
    refine ⟨0, by omega, rfl, ?_, ?_, ?_, ?_⟩
    · exact (((Below.refl _ w).alloc (Nat.le_refl _) _).alloc (by simp) _).alloc (by simp; omega) _
    · have h := B4.new w (fcv f) 26
      exact B4.below h ((((Below.refl (w.heap.size + 1) _).alloc (by simp) _)).alloc (by simp) _) (by omega)
    · have h := B4.new (w.alloc (.cells #[fcv f 0, fcv f 1, fcv f 2, fcv f 3] 26)) fz 26
      rw [show (w.alloc (.cells #[fcv f 0, fcv f 1, fcv f 2, fcv f 3] 26)).heap.size = w.heap.size + 1 by simp] at h
      exact B4.below h (((Below.refl (w.heap.size + 1 + 1) _).alloc (by simp) _)) (by omega)
    · have h := B4.new ((w.alloc (.cells #[fcv f 0, fcv f 1, fcv f 2, fcv f 3] 26)).alloc (.cells #[fz 0, fz 1, fz 2, fz 3] 26)) fz 26
      rw [show ((w.alloc (.cells #[fcv f 0, fcv f 1, fcv f 2, fcv f 3] 26)).alloc (.cells #[fz 0, fz 1, fz 2, fz 3] 26)).heap.size = w.heap.size + 1 + 1 by simp] at h
      refine B4.congr h (fun j hj => ?_)
      unfold outW fz
      by_cases hj0 : j = 0
      · subst hj0; rfl
      · simp [hj0]
  case round =>
    obtain ⟨m, hm, rfl, hb, hb1, hb2, hb3⟩ := hrel
    have H1 := Lib.hid hb1
    have H2 := Lib.hid hb2
    have H3 := Lib.hid hb3
    clear hb1 hb2 hb3
    by_cases h6 : m < 4
    · obtain ⟨a0, f0⟩ := H1.out.2 0 (by decide)
      obtain ⟨a1, f1⟩ := H1.out.2 1 (by decide)
      obtain ⟨a2, f2⟩ := H1.out.2 2 (by decide)
      obtain ⟨a3, f3⟩ := H1.out.2 3 (by decide)
      have h6' : (m : Int) < 4 := by omega
      go_wp2
      clear a0 a1 a2 a3 f0 f1 f2 f3
      go_loopw [11] (fun i wx => ∃ p : Nat, p ≤ 4 ∧ i = .int .i64 p ∧ WaJ f w m p wx) (fun i _ => 4 - (intOf i).toNat)
      case atStart => exact ⟨0, by omega, rfl, hb, H1.out, H2.out, H3.out⟩
      case round =>
        clear H1 H2 H3 hb
        obtain ⟨p, hp, rfl, hb, hb1, hb2, hb3⟩ := hrel
        have H1 := Lib.hid hb1
        have H2 := Lib.hid hb2
        have H3 := Lib.hid hb3
        clear hb1 hb2 hb3
        by_cases hp4 : p < 4
        · have hp4' : (p : Int) < 4 := by omega
          have hix := index_wv f p hp4
          have hneg : IntKind.i64.wrap (-(m : Int)) = -(m : Int) := IntWalk.i64_in _ (by omega)
          have hq : m * p ≤ 9 := Nat.mul_le_mul (by omega : m ≤ 3) (by omega : p ≤ 3)
          have hq2 : (m : Int) * (p : Int) = ((m * p : Nat) : Int) := by simp
          have hmul : IntKind.i64.wrap (-(m : Int) * (p : Int)) = -((m : Int) * (p : Int)) := by
            rw [Int.neg_mul, hq2]; exact IntWalk.i64_in _ (by omega)
          have hx : (s p).natAbs ≤ 9007199254740992 := by
            have h1 := szs_mono s (show p + 1 ≤ 4 by omega)
            have h2 : szs s (p + 1) = szs s p + (s p).natAbs := rfl
            have h3 := HS.out
            omega
          have ct := Lib.hid (fun W => turned_any (-((m : Int) * (p : Int))) (by rw [hq2]; omega) (by rw [hq2]; omega) (f p) (s p) 0 (HF.out p hp4) hx (by decide) W)
          have hrun := accW_run f s m p hp4 HF.out HS.out
          obtain ⟨hc, hfr⟩ := H3.out.2 m h6
          have e1 : outW f m p m = .complex .f64 (accW f m p).re (accW f m p).im := by unfold outW; simp
          rw [e1] at hc
          have HN : Hid (B4 (wr.setCell ⟨w.heap.size + 1 + 1, m, none⟩ (.complex .f64 (accW f m (p + 1)).re (accW f m (p + 1)).im)) (w.heap.size + 1 + 1) (outW f m (p + 1))) := by
            rw [← outW_set f m p _ rfl]; exact H3.out.set h6 _
          clear e1 hq hq2 hx
          generalize turnW ((-((m : Int) * (p : Int))) % 4).toNat (f p) = d at *
          generalize accW f m (p + 1) = a2 at *
          generalize accW f m p = a1 at *
          have hadd : ∀ W, (binOp .add 24 (.complex .f64 a1.re a1.im) (.complex .f64 d.re d.im)).run Try.prog W = .ok (.complex .f64 a2.re a2.im) W := fun W => run_complex_sum W .add (.inl rfl) _ _ _ _ _ _ _ _ hrun
          clear hrun
          go_wp2
          go_region_with (first | (go_at_call 20; (with_reducible refine (ct.out _).mono ?_); rintro e w1 ⟨rfl, rfl⟩))
          all_goals
            go_wp2
            go_roundw
            case rel => exact ⟨p + 1, by omega, by go_num, (hb.setCell (by simp; omega) _).drew, (H1.out.other (by omega) _).drew, (H2.out.other (by omega) _).drew, HN.out.drew⟩
            case measure => simp [intOf]; omega
        · obtain rfl : p = 4 := by omega
          go_wp2
          go_roundw
          case rel => exact ⟨m + 1, by omega, by go_num, hb, H1.out, H2.out, by rw [← outW_next]; exact H3.out⟩
          case measure => simp [intOf]; omega
    · obtain rfl : m = 4 := by omega
      have G := Lib.hid (fun j hj => (H3.out.2 j hj))
      have e : ∀ j, j < 4 → outW f 4 0 j = .complex .f64 (wavesW f j).re (wavesW f j).im := fun j hj => by unfold outW; rw [if_pos hj]; rfl
      have a0 := (H3.out.2 0 (by decide)).1.trans (congrArg some (e 0 (by decide)))
      have a1 := (H3.out.2 1 (by decide)).1.trans (congrArg some (e 1 (by decide)))
      have a2 := (H3.out.2 2 (by decide)).1.trans (congrArg some (e 2 (by decide)))
      have a3 := (H3.out.2 3 (by decide)).1.trans (congrArg some (e 3 (by decide)))
      obtain ⟨z0, y0⟩ := H2.out.2 0 (by decide)
      obtain ⟨z1, y1⟩ := H2.out.2 1 (by decide)
      obtain ⟨z2, y2⟩ := H2.out.2 2 (by decide)
      obtain ⟨z3, y3⟩ := H2.out.2 3 (by decide)
      clear e G h6 hm
      go_wp2
      refine bodyPost_ret (v := wv (wavesW f)) ?_ rfl ⟨rfl, ?_⟩
      · simp [results, Try.results17, go_sem, z0, z1, z2, z3]; rfl
      · exact (((hb.setCell (by simp) _).setCell (by simp) _).setCell (by simp) _).setCell (by simp) _
end Go.Proofs.Ytmecpbgjienidaa
