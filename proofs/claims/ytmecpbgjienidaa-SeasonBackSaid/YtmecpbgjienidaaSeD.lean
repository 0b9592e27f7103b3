/-
  A row's waves (Of), walked. Conditions: as each theorem states.
-/
import Derived.Test.YtmecpbgjienidaaSeC
namespace Go.Proofs.Ytmecpbgjienidaa
open Go.RowKit
open Se Fl
attribute [local go_sem] run_store_float run_store_complex

def OfJ (f : Nat → Cw) (w : World) (wr : World) : Prop :=
  Below w.heap.size w wr ∧ B4 wr w.heap.size fz ∧ B4 wr (w.heap.size + 1) (fcv f)
theorem fz_c0 : fz = fcv (fun _ => c0) := rfl
/-- What a row's waves are. -/
def OfQ (l : List Int) (w : World) (e : Ending) (w' : World) : Prop :=
  Below w.heap.size w w' ∧ ∃ g : Nat → Cw, (e = .returned (.tuple #[wv g, .bool (decide (tot l l.length ≤ 1125899906842624))])) ∧
    (tot l l.length ≤ 1125899906842624 → WF g (wre (smk l l.length)) (wim (smk l l.length))) ∧ (¬ tot l l.length ≤ 1125899906842624 → g = fun _ => c0)
theorem wavesW_wf {f : Nat → Cw} {s : Nat → Int} (hf : WF f s (fun _ => 0)) (hs : szs s 4 ≤ 9007199254740992) : WF (wavesW f) (wre s) (wim s) := fun j hj => by
  have h := accW_cf f s j hf hs 4 (by omega)
  obtain ⟨e1, e2⟩ := pre_all s j hj
  exact cf_cast h e1 e2

set_option maxHeartbeats 1000000 in
theorem of_any (A : Option Addr) (c : Nat) (l : List Int) (hl : l.length ≤ 1000000) (hall : ∀ p ∈ l, rg p) (w : World) (RA : NRow w A l) :
    Calls Try.prog 7 #[.slice A l.length c] w (OfQ l w) := by
  have HR := Lib.hid RA
  have HA := Lib.hid hall
  clear RA hall
  go_enter Try.func7, Try.ntmps7
  go_wp2
  go_loopw [5, 10] (fun s i wr => ∃ (k : Nat) (f : Nat → Cw), k ≤ l.length ∧ s = .int .u64 (tot l k : Nat) ∧ i = .int .i64 k ∧ tot l k ≤ 1125899906842624 ∧ WF f (smk l k) (fun _ => 0) ∧ OfJ f w wr) (fun _ i _ => l.length - (intOf i).toNat)
  case atStart =>
    refine ⟨0, fun _ => c0, by omega, rfl, rfl, by simp [tot], fun j hj => cf_zero, ?_, ?_, ?_⟩
    · exact ((Below.refl _ w).alloc (Nat.le_refl _) _).alloc (by simp) _
    · have h := B4.new w fz 26
      exact B4.below h ((Below.refl (w.heap.size + 1) _).alloc (by simp) _) (by omega)
    · have h := B4.new (w.alloc (.cells #[fz 0, fz 1, fz 2, fz 3] 26)) fz 26
      rw [show (w.alloc (.cells #[fz 0, fz 1, fz 2, fz 3] 26)).heap.size = w.heap.size + 1 by simp] at h
      exact h
  case round =>
    obtain ⟨k, f, hk, rfl, rfl, ht, hf, hb, hb1, hb2⟩ := hrel
    have HF := Lib.hid hf
    have H1 := Lib.hid hb1
    have H2 := Lib.hid hb2
    clear hf hb1 hb2
    by_cases h1 : k < l.length
    · obtain ⟨a, rfl, hab, hc⟩ := HR.out (by omega)
      have x0 := hb.cell (p := a.add k) (by rw [block_add]; exact hab) |>.trans (hc k h1)
      have hx := HA.out l[k] (List.getElem_mem h1)
      have hgd : l.getD k 0 = l[k] := by rw [List.getD_eq_getElem?_getD, List.getElem?_eq_getElem h1]; rfl
      have htn : tot l (k + 1) = tot l k + (l[k]).natAbs := by show _ + _ = _; rw [hgd]
      have cS := Lib.hid (fun W => size_any l[k] hx W)
      have hna : (l[k]).natAbs ≤ 9223372036854775808 := by unfold rg at hx; omega
      have hand := and3 (k := (k : Int)) (by omega) (by omega)
      have hand2 : ((k : Int) % 4).toNat = k % 4 := by omega
      rw [hand2] at hand
      have hk4 : k % 4 < 4 := Nat.mod_lt _ (by decide)
      clear hc hand2
      by_cases hbig : tot l (k + 1) ≤ 1125899906842624
      · obtain ⟨hrun, hwf⟩ := wf_next HF.out hbig
        have HW := Lib.hid hwf
        rw [hgd] at hrun HW
        rw [htn] at hbig
        have HT := Lib.hid htn
        have hadd : ∀ W, (binOp .add 24 (.complex .f64 (f (k % 4)).re (f (k % 4)).im) (.complex .f64 (floatOfInt .f64 l[k]) 0)).run Try.prog W = .ok (.complex .f64 (addW (f (k % 4)) ⟨floatOfInt .f64 l[k], 0⟩).re (addW (f (k % 4)) ⟨floatOfInt .f64 l[k], 0⟩).im) W := fun W => run_complex_sum W .add (.inl rfl) _ _ _ _ _ _ _ _ hrun
        have HN : Hid (B4 (wr.setCell ⟨w.heap.size + 1, k % 4, none⟩ (.complex .f64 (addW (f (k % 4)) ⟨floatOfInt .f64 l[k], 0⟩).re (addW (f (k % 4)) ⟨floatOfInt .f64 l[k], 0⟩).im)) (w.heap.size + 1) (fcv (fset f (k % 4) (addW (f (k % 4)) ⟨floatOfInt .f64 l[k], 0⟩)))) := by
          rw [← fset_cv]; exact H2.out.set hk4 _
        obtain ⟨hcl, hfr⟩ := H2.out.2 (k % 4) hk4
        have hcl2 : wr.cell? ⟨w.heap.size + 1, k % 4, none⟩ = some (.complex .f64 (f (k % 4)).re (f (k % 4)).im) := hcl
        clear hwf hrun htn hgd hx hcl
        generalize k % 4 = r at *
        generalize addW (f r) ⟨floatOfInt .f64 l[k], 0⟩ = d at *
        generalize l[k] = x at *
        go_wp2_with (go_at_call 16; (with_reducible refine (cS.out _).mono ?_); rintro e w1 ⟨rfl, rfl⟩)
        refine ⟨⟨k + 1, fset f r d, by omega, by rw [HT.out]; simp, by go_num, by rw [HT.out]; exact hbig, HW.out, hb.setCell (by simp) _, H1.out.other (by omega) _, HN.out⟩, by simp [intOf]; omega⟩
      · have hmo := tot_mono l (show k + 1 ≤ l.length by omega)
        have hno : ¬ tot l l.length ≤ 1125899906842624 := by omega
        rw [htn] at hbig
        have hbig' : (1125899906842624 : Int) < (tot l k : Int) + ((l[k]).natAbs : Int) := by omega
        have HNO := Lib.hid hno
        obtain ⟨z0, y0⟩ := H1.out.2 0 (by decide)
        obtain ⟨z1, y1⟩ := H1.out.2 1 (by decide)
        obtain ⟨z2, y2⟩ := H1.out.2 2 (by decide)
        obtain ⟨z3, y3⟩ := H1.out.2 3 (by decide)
        clear htn hgd hx hno hmo hbig
        generalize l[k] = x at *
        go_wp2_with (go_at_call 16; (with_reducible refine (cS.out _).mono ?_); rintro e w1 ⟨rfl, rfl⟩)
        have hd : decide (tot l l.length ≤ 1125899906842624) = false := decide_eq_false HNO.out
        refine bodyPost_ret (v := .tuple #[wv (fun _ => c0), .bool false]) ?_ rfl ⟨?_, _, by rw [hd], fun h => absurd h HNO.out, fun _ => rfl⟩
        · simp [results, Try.results7, go_sem, z0, z1, z2, z3]; rfl
        · exact (((hb.setCell (by simp) _).setCell (by simp) _).setCell (by simp) _).setCell (by simp) _
    · obtain rfl : k = l.length := by omega
      have hd : decide (tot l l.length ≤ 1125899906842624) = true := decide_eq_true ht
      have hsz := smk_le l l.length
      have cW : ∀ W, Calls Try.prog 17 #[.agg #[fcv f 0, fcv f 1, fcv f 2, fcv f 3]] W fun e w' => e = .returned (.agg #[.complex .f64 (wavesW f 0).re (wavesW f 0).im, .complex .f64 (wavesW f 1).re (wavesW f 1).im, .complex .f64 (wavesW f 2).re (wavesW f 2).im, .complex .f64 (wavesW f 3).re (wavesW f 3).im]) ∧ Below W.heap.size W w' := fun W => waves_any f (smk l l.length) HF.out (by omega) W
      replace cW := Lib.hid cW
      have hwf := wavesW_wf HF.out (show szs (smk l l.length) 4 ≤ 9007199254740992 by omega)
      have HW := Lib.hid hwf
      have HD := Lib.hid hd
      have HT := Lib.hid ht
      obtain ⟨z0, y0⟩ := H1.out.2 0 (by decide)
      obtain ⟨z1, y1⟩ := H1.out.2 1 (by decide)
      obtain ⟨z2, y2⟩ := H1.out.2 2 (by decide)
      obtain ⟨z3, y3⟩ := H1.out.2 3 (by decide)
      obtain ⟨a0, b0⟩ := H2.out.2 0 (by decide)
      obtain ⟨a1, b1⟩ := H2.out.2 1 (by decide)
      obtain ⟨a2, b2⟩ := H2.out.2 2 (by decide)
      obtain ⟨a3, b3⟩ := H2.out.2 3 (by decide)
      have hz := H1.out.1
      clear hwf hd hsz ht
      generalize wavesW f = g at *
      go_wp2_with (go_at_call 17; (with_reducible refine (cW.out _).mono ?_); rintro e w2 ⟨rfl, hb'⟩; have B1 := H1.out.below hb' hz; obtain ⟨z0, y0⟩ := B1.2 0 (by decide); obtain ⟨z1, y1⟩ := B1.2 1 (by decide); obtain ⟨z2, y2⟩ := B1.2 2 (by decide); obtain ⟨z3, y3⟩ := B1.2 3 (by decide); have HB1 := Lib.hid B1; clear B1)
      refine bodyPost_ret (v := .tuple #[wv g, .bool true]) ?_ rfl ⟨?_, _, by rw [HD.out], fun _ => HW.out, fun h => absurd HT.out h⟩
      · simp [results, Try.results7, go_sem, z0, z1, z2, z3]; rfl
      · have hbb := hb.trans (hb'.mono hb.size)
        exact (((hbb.setCell (by simp) _).setCell (by simp) _).setCell (by simp) _).setCell (by simp) _
def OfY (l : List Int) (w : World) (e : Ending) (w' : World) : Prop :=
  ∃ g : Nat → Cw, e = .returned (.tuple #[.agg #[.complex .f64 (g 0).re (g 0).im, .complex .f64 (g 1).re (g 1).im, .complex .f64 (g 2).re (g 2).im, .complex .f64 (g 3).re (g 3).im], .bool true]) ∧ WF g (wre (smk l l.length)) (wim (smk l l.length)) ∧ Below w.heap.size w w'
theorem of_yes (A : Option Addr) (c : Nat) (l : List Int) (hl : l.length ≤ 1000000) (hall : ∀ p ∈ l, rg p) (ht : tot l l.length ≤ 1125899906842624) (w : World) (RA : NRow w A l) :
    Calls Try.prog 7 #[.slice A l.length c] w (OfY l w) :=
  (of_any A c l hl hall w RA).mono fun e w' ⟨hb, g, he, h1, _⟩ => ⟨g, by rw [he, decide_eq_true ht]; rfl, h1 ht, hb⟩
theorem of_no (A : Option Addr) (c : Nat) (l : List Int) (hl : l.length ≤ 1000000) (hall : ∀ p ∈ l, rg p) (ht : ¬ tot l l.length ≤ 1125899906842624) (w : World) (RA : NRow w A l) :
    Calls Try.prog 7 #[.slice A l.length c] w fun e w' => e = .returned (.tuple #[.agg #[.complex .f64 0 0, .complex .f64 0 0, .complex .f64 0 0, .complex .f64 0 0], .bool false]) ∧ Below w.heap.size w w' :=
  (of_any A c l hl hall w RA).mono fun e w' ⟨hb, g, he, _, h1⟩ => ⟨by rw [he, decide_eq_false ht, h1 ht]; rfl, hb⟩
end Go.Proofs.Ytmecpbgjienidaa
